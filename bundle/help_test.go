package bundle_test

import (
	"fmt"
	"hash/crc32"
	"math"
	"math/rand"
	"slices"
	"testing"

	"lychgate/api"
	"lychgate/bundle"
	"lychgate/check"
	"lychgate/lower"
	"lychgate/request"
	"lychgate/space"
)

// accepted is a source's policy.
func accepted(t *testing.T, s string) api.Policy {
	t.Helper()
	p, e, at := check.Accept(s)
	if e != api.OK {
		t.Fatalf("%s: error %d at %d", s, e, at)
	}
	return p
}

// program is what some sources are compiled into.
func program(t *testing.T, sources ...string) api.Program {
	t.Helper()
	var l []api.Policy
	for _, s := range sources {
		l = append(l, accepted(t, s))
	}
	p, e := lower.Compile(l, api.MaxNodes)
	if e != api.OK {
		t.Fatalf("%q: error %d", sources, e)
	}
	return p
}

// sealed is the image of a program.
func sealed(t *testing.T, p api.Program) api.Image {
	t.Helper()
	i, e := bundle.Seal(p, api.MaxNodes)
	if e != api.OK {
		t.Fatalf("Seal: error %d; of %s", e, tellRules(p))
	}
	return i
}

// image is that of a source.
func image(t *testing.T, s string) api.Image {
	t.Helper()
	return sealed(t, program(t, s))
}

// encoded is the text of an image.
func encoded(t *testing.T, i api.Image) string {
	t.Helper()
	s, e := bundle.Encode(i)
	if e != api.OK {
		t.Fatalf("Encode: error %d; of %s", e, tellNodes(i))
	}
	return s
}

// asked is a request, as its text tells it.
func asked(t *testing.T, s string) api.Request {
	t.Helper()
	r, e := request.Decode(s)
	if e != api.OK {
		t.Fatalf("%q: error %d", s, e)
	}
	return r
}

// What follows is about diagrams by the chapters' words, by other means than the packages have: what a rule says stands in a table of all points, and its diagram is found by cutting that into pieces.

// table says of each point, the last level's class rising first, whether it is true there.
type table []bool

// words has the nodes that tables' diagrams have, in the order in which they are made.
type words struct {
	sizes []int
	nodes []api.Node
	refs  map[string]int
}

func newWords(sizes []int) *words { return &words{sizes: sizes, refs: map[string]int{}} }

func (w *words) points() int {
	n := 1
	for _, size := range w.sizes {
		n *= size
	}
	return n
}

// point is the n-th one.
func (w *words) point(n int) []int {
	out := make([]int, len(w.sizes))
	for level := len(out) - 1; level >= 0; level-- {
		out[level] = n % w.sizes[level]
		n /= w.sizes[level]
	}
	return out
}

// put is the diagram of a table.
func (w *words) put(s table) int { return w.from(0, s) }

func (w *words) from(level int, s table) int {
	if level == len(w.sizes) {
		return map[bool]int{false: 0, true: 1}[s[0]]
	}
	var kids []int
	for piece := range slices.Chunk(s, len(s)/w.sizes[level]) {
		kids = append(kids, w.from(level+1, piece))
	}
	if slices.Min(kids) == slices.Max(kids) {
		return kids[0]
	}
	return w.node(level, kids)
}

func (w *words) node(level int, kids []int) int {
	key := fmt.Sprint(level, kids)
	if _, is := w.refs[key]; !is {
		w.refs[key] = len(w.nodes) + 2
		w.nodes = append(w.nodes, api.Node{Level: level, Kids: kids})
	}
	return w.refs[key]
}

// says is the table of a ref.
func (w *words) says(f int) table {
	out := make(table, w.points())
	for n := range out {
		out[n] = walk(w.nodes, f, w.point(n))
	}
	return out
}

// walk is what a root says of a point, level by level.
func walk(nodes []api.Node, f int, point []int) bool {
	for f > 1 {
		f = nodes[f-2].Kids[point[nodes[f-2].Level]]
	}
	return f == 1
}

// either and less are put together point by point.
func either(s, u table) table {
	out := make(table, len(s))
	for n := range out {
		out[n] = s[n] || u[n]
	}
	return out
}

func less(s, u table) table {
	out := make(table, len(s))
	for n := range out {
		out[n] = s[n] && !u[n]
	}
	return out
}

// wordsSeal is B1 by its words, of a right program of the policy 0: the image, and how many nodes are enough.
func wordsSeal(p api.Program) (api.Image, int) {
	w := newWords(sizesBy(p.Space, p.Order))
	for _, n := range p.Nodes {
		w.node(n.Level, n.Kids)
	}
	never := make(table, w.points())
	anyOf := func(effect int) table {
		out := never
		for _, x := range p.Rules {
			if x.Effect == effect {
				out = either(out, w.says(x.Root))
				w.put(out)
			}
		}
		return out
	}
	denied := anyOf(api.ItemDeny)
	allowed := anyOf(api.ItemAllow)
	always := slices.Repeat(table{true}, len(never))
	w.put(less(always, denied))
	w.put(less(allowed, denied))
	return imageOf(p.Space, p.Order, less(allowed, denied)), len(w.nodes)
}

// imageOf is the image over a space and an order that says what a table does.
func imageOf(x []api.Attr, order []int, s table) api.Image {
	w := newWords(sizesBy(x, order))
	root := w.put(s)
	return api.Image{Space: x, Order: order, Nodes: w.nodes, Root: root}
}

// wordsRight is whether an image is right, by the chapter's words, one behind the other.
func wordsRight(i api.Image) bool {
	return space.Right(i.Space) && wordsOrder(i) && wordsNodes(i)
}

func wordsOrder(i api.Image) bool {
	for at := range i.Space {
		if !slices.Contains(i.Order, at) {
			return false
		}
	}
	return len(i.Order) == len(i.Space)
}

func wordsNodes(i api.Image) bool {
	if len(i.Nodes) == 0 {
		return i.Root == 0 || i.Root == 1
	}
	there := map[string]bool{}
	for k, n := range i.Nodes {
		if n.Level < 0 || n.Level >= len(i.Order) || len(n.Kids) != i.Space[i.Order[n.Level]].Size || there[tell(n)] {
			return false
		}
		there[tell(n)] = true
		for _, kid := range n.Kids {
			if kid < 0 || kid >= k+2 || kid > 1 && i.Nodes[kid-2].Level <= n.Level {
				return false
			}
		}
		if slices.Min(n.Kids) == slices.Max(n.Kids) {
			return false
		}
	}
	return i.Root == len(i.Nodes)+1 && len(i.Nodes) <= 8192 && slices.Equal(ended(i), upTo(len(i.Nodes)))
}

// ended are the places of the nodes of an image's root, in post-order.
func ended(i api.Image) []int {
	met := map[int]bool{0: true, 1: true}
	var out []int
	var through func(f int)
	through = func(f int) {
		if met[f] {
			return
		}
		met[f] = true
		for _, kid := range i.Nodes[f-2].Kids {
			through(kid)
		}
		out = append(out, f-2)
	}
	through(i.Root)
	return out
}

// wordsJudge is B3 by its words, of a right image and request.
func wordsJudge(t *testing.T, i api.Image, r api.Request) int {
	t.Helper()
	classes, e := space.Classes(i.Space, r)
	if e != api.OK {
		t.Fatalf("%+v: error %d", r, e)
	}
	return map[bool]int{true: api.Allow, false: api.Deny}[walk(i.Nodes, i.Root, picked(classes, i.Order))]
}

// by is a number by so many bytes; of what does not fit the low ones.
func by(size, n int) string {
	out := make([]byte, size)
	for k := range out {
		out[size-1-k] = byte(n >> (8 * k))
	}
	return string(out)
}

func text(s string) string { return by(2, len(s)) + s }

// checked has a check behind it, the lowest byte first.
func checked(s string) string {
	n := crc32.ChecksumIEEE([]byte(s))
	return s + string([]byte{byte(n), byte(n >> 8), byte(n >> 16), byte(n >> 24)})
}

// body is a text without its check.
func body(s string) string { return s[:len(s)-4] }

// wordsText is the text of an image by the chapter's words, whether it is right or not.
func wordsText(i api.Image) string {
	s := "LYCH" + by(1, 1) + by(1, len(i.Space))
	for _, x := range i.Space {
		s += by(1, x.Kind) + by(1, x.Size-1)
		switch x.Kind {
		case api.AttrAddr:
			s += by(4, len(x.Rows))
			for _, row := range x.Rows {
				s += by(4, row.Prefix.Addr) + by(1, row.Prefix.Bits) + by(1, row.Label)
			}
		case api.AttrPort:
			s += by(4, len(x.Cuts))
			for _, cut := range x.Cuts {
				s += by(2, cut.From) + by(1, cut.Class)
			}
		case api.AttrMethod:
			s += by(1, x.Rest) + by(4, len(x.Methods))
			for _, m := range x.Methods {
				s += text(m.Name) + by(1, m.Class)
			}
		case api.AttrPath:
			s += wordsAuto(x.Auto)
		case api.AttrHeader:
			s += text(x.Name) + by(1, x.Rest) + wordsAuto(x.Auto)
		}
	}
	for _, n := range i.Order {
		s += by(1, n)
	}
	out := []byte(s + by(2, len(i.Nodes)))
	for _, n := range i.Nodes {
		out = append(out, by(1, n.Level)...)
		for _, kid := range n.Kids {
			out = append(out, by(2, kid)...)
		}
	}
	return checked(string(out) + by(2, i.Root))
}

func wordsAuto(a api.Auto) string {
	s := a.Bytes + by(1, len(a.Out)-1)
	for _, n := range a.Next {
		s += by(1, n)
	}
	for _, n := range a.Out {
		s += by(2, n)
	}
	return s
}

// scan reads what wordsText wrote; short, once there was too little.
type scan struct {
	s     string
	short bool
}

func (c *scan) raw(n int) string {
	if c.short = c.short || n > len(c.s); c.short {
		return ""
	}
	out := c.s[:n]
	c.s = c.s[n:]
	return out
}

func (c *scan) num(size int) int {
	n := 0
	for _, b := range []byte(c.raw(size)) {
		n = n<<8 + int(b)
	}
	return n
}

func (c *scan) nums(size, many int) []int {
	var out []int
	for range many {
		if out = append(out, c.num(size)); c.short {
			break
		}
	}
	return out
}

func (c *scan) auto() api.Auto {
	a := api.Auto{Bytes: c.raw(256)}
	if c.short {
		return a
	}
	many, states := int(slices.Max([]byte(a.Bytes)))+1, c.num(1)+1
	a.Next = c.nums(1, states*many)
	a.Out = c.nums(2, states)
	return a
}

func (c *scan) attr() api.Attr {
	x := api.Attr{Kind: c.num(1), Size: c.num(1) + 1}
	switch x.Kind {
	case api.AttrAddr:
		for n := c.num(4); n > 0 && !c.short; n-- {
			x.Rows = append(x.Rows, api.Row{Prefix: api.Prefix{Addr: c.num(4), Bits: c.num(1)}, Label: c.num(1)})
		}
	case api.AttrPort:
		for n := c.num(4); n > 0 && !c.short; n-- {
			x.Cuts = append(x.Cuts, api.Cut{From: c.num(2), Class: c.num(1)})
		}
	case api.AttrMethod:
		x.Rest = c.num(1)
		for n := c.num(4); n > 0 && !c.short; n-- {
			x.Methods = append(x.Methods, api.Method{Name: c.raw(c.num(2)), Class: c.num(1)})
		}
	case api.AttrPath:
		x.Auto = c.auto()
	case api.AttrHeader:
		x.Name, x.Rest, x.Auto = c.raw(c.num(2)), c.num(1), c.auto()
	}
	return x
}

// wordsRead is the right image of which s is the text; false, if there is none.
func wordsRead(s string) (api.Image, bool) {
	if len(s) < 4 || checked(body(s)) != s {
		return api.Image{}, false
	}
	c := &scan{s: body(s)}
	if c.raw(5) != "LYCH\x01" {
		return api.Image{}, false
	}
	var i api.Image
	for n := c.num(1); n > 0 && !c.short; n-- {
		i.Space = append(i.Space, c.attr())
	}
	if i.Order = c.nums(1, len(i.Space)); c.short || !wordsOrder(i) {
		return api.Image{}, false
	}
	for n := c.num(2); n > 0 && !c.short; n-- {
		x := api.Node{Level: c.num(1)}
		if x.Level >= len(i.Order) {
			return api.Image{}, false
		}
		x.Kids = c.nums(2, i.Space[i.Order[x.Level]].Size)
		i.Nodes = append(i.Nodes, x)
	}
	i.Root = c.num(2)
	if c.short || c.s != "" || !wordsRight(i) {
		return api.Image{}, false
	}
	return i, true
}

// sizesBy are those of the levels.
func sizesBy(x []api.Attr, order []int) []int {
	var out []int
	for _, at := range order {
		out = append(out, x[at].Size)
	}
	return out
}

func upTo(n int) []int {
	out := make([]int, n)
	for i := range out {
		out[i] = i
	}
	return out
}

// picked are the elements at some places.
func picked(l, places []int) []int {
	var out []int
	for _, at := range places {
		out = append(out, l[at])
	}
	return out
}

func node(level int, kids ...int) api.Node { return api.Node{Level: level, Kids: kids} }

// tell is all of a thing as text, whether its empty lists are nil or not.
func tell(x any) string { return fmt.Sprintf("%+v", x) }

// tellRules and tellNodes leave out the space.
func tellRules(p api.Program) string {
	return tell([]any{sizesBy(p.Space, upTo(len(p.Space))), p.Order, p.Nodes, p.Rules})
}

func tellNodes(i api.Image) string {
	return tell([]any{sizesBy(i.Space, upTo(len(i.Space))), i.Order, i.Nodes, i.Root})
}

func wantImage(t *testing.T, what string, got, want api.Image) {
	t.Helper()
	if tell(got) != tell(want) {
		t.Fatalf("%s: %s\nwant %s", what, tell(got), tell(want))
	}
}

func wantSeal(t *testing.T, p api.Program, most int, want api.Image) {
	t.Helper()
	i, e := bundle.Seal(p, most)
	if e != api.OK {
		t.Fatalf("Seal of at most %d nodes: error %d; of %s", most, e, tellRules(p))
	}
	wantImage(t, "Seal", i, want)
}

func wantNotSealed(t *testing.T, p api.Program, most int, want api.Errno) {
	t.Helper()
	if i, e := bundle.Seal(p, most); tell(i) != tell(api.Image{}) || e != want {
		t.Fatalf("Seal of at most %d nodes: %s, error %d; want error %d; of %s", most, tellNodes(i), e, want, tellRules(p))
	}
}

// wantDecode holds Decode against the chapter's words; it answers whether there is an image.
func wantDecode(t *testing.T, what, s string) bool {
	t.Helper()
	i, e := bundle.Decode(s)
	want, is := wordsRead(s)
	if is && e != api.OK || !is && e != api.ErrBundleForm {
		t.Fatalf("%s: error %d; by the words %v", what, e, is)
	}
	wantImage(t, what, i, want)
	if u, e := bundle.Encode(i); is && (u != s || e != api.OK || !bundle.Right(i)) {
		t.Fatalf("%s: Encode of what it says: error %d", what, e)
	}
	return is
}

func wantNoImage(t *testing.T, what, s string) {
	t.Helper()
	if i, e := bundle.Decode(s); tell(i) != tell(api.Image{}) || e != api.ErrBundleForm {
		t.Fatalf("%s: %s, error %d", what, tellNodes(i), e)
	}
}

func wantJudge(t *testing.T, i api.Image, r api.Request, want int) {
	t.Helper()
	if v, e := bundle.Judge(i, r); v != want || e != api.OK {
		t.Fatalf("%+v: %d, error %d; want %d; by %s", r, v, e, want, tellNodes(i))
	}
}

func wantNotJudged(t *testing.T, i api.Image, r api.Request) {
	t.Helper()
	if v, e := bundle.Judge(i, r); v != 0 || e != api.ErrArg {
		t.Fatalf("%+v: %d, error %d; by %s", r, v, e, tellNodes(i))
	}
}

// farNumbers are none that anything here may have; some would be, if they were cut to fewer bits.
func farNumbers() []int {
	return []int{-1, -2, -8192, 8194, 1 << 16, 1<<16 + 1, 1<<16 + 2, 1 << 32, 1<<32 + 1, 1<<32 + 2, 1<<32 + 100, math.MinInt, math.MinInt + 1, math.MinInt + 100, math.MaxInt, math.MaxInt32, math.MinInt32}
}

func pick[T any](r *rand.Rand, l ...T) T { return l[r.Intn(len(l))] }

// randomSpace is one of few points.
func randomSpace(t *testing.T, r *rand.Rand) []api.Attr {
	t.Helper()
	return program(t, pick(r,
		"",
		"allow a when port in {1} or port in {2};",
		"allow a when addr in {10.0.0.0/8} or addr in {11.0.0.0/8} or port in {80-90};",
		`allow a when addr in {10.0.0.0/8} or port in {80} or method in {GET} or path ~ "/a/*";`,
		`allow a when addr in {10.0.0.0/8} or port in {80} or method in {GET} or path ~ "/a/*" or has "k";`,
		`allow a when addr in {10.0.0.0/8} or port in {80} or method in {GET} or method in {PUT} or has "k";`,
		`allow a when addr in {10.0.0.0/8} or addr in {10.1.0.0/16} or path ~ "/a/**" or path ~ "/b" or method in {GET} or port in {81};`,
		`allow a when port in {80} or method in {GET, POST} or has "k" or header "l" ~ "a*";`,
		`allow a when header "a" ~ "x*" or header "b" ~ "*y" or has "a" or method in {A};`,
		`allow a when has "a" or has "b" or has "k" or has "l";`,
	)).Space
}

func randomTable(r *rand.Rand, points int, ahead []table) table {
	out := make(table, points)
	if kind := r.Intn(5); kind < 2 && len(ahead) > 0 {
		s, u := pick(r, ahead...), pick(r, ahead...)
		return []table{either(s, u), less(s, u)}[kind]
	}
	piece, often := 1+r.Intn(4), 2+r.Intn(4)
	for n := range out {
		if out[n] = r.Intn(often) == 0; n%piece > 0 {
			out[n] = out[n-1]
		}
	}
	return out
}

// randomProgram is a right one of few points and of one policy, in an order of its own.
func randomProgram(t *testing.T, r *rand.Rand) api.Program {
	t.Helper()
	p := api.Program{Space: randomSpace(t, r)}
	p.Order = r.Perm(len(p.Space))
	w := newWords(sizesBy(p.Space, p.Order))
	var l []table
	for i := range r.Intn(5) {
		l = append(l, randomTable(r, w.points(), l))
		p.Rules = append(p.Rules, api.Ruled{Effect: pick(r, api.ItemAllow, api.ItemAllow, api.ItemDeny), Name: fmt.Sprint("n", i), Root: w.put(l[i])})
	}
	p.Nodes = w.nodes
	return p
}

// randomImage is a right one, that need not be of a program.
func randomImage(t *testing.T, r *rand.Rand) api.Image {
	t.Helper()
	x := randomSpace(t, r)
	order := r.Perm(len(x))
	return imageOf(x, order, randomTable(r, newWords(sizesBy(x, order)).points(), nil))
}

// randomRequest is one with members of many classes of all spaces here.
func randomRequest(r *rand.Rand) api.Request {
	out := api.Request{
		Method: pick(r, "A", "GET", "PUT", "POST"),
		Path:   pick(r, "/", "/a", "/b", "/a/b", "/a/b/c", "/bbbb", "/%2F"),
		Addr:   pick(r, 0, 10<<24, 10<<24+5, 10<<24+1<<16, 11<<24-1, 11<<24, 12<<24, api.MaxWord),
		Port:   pick(r, 0, 1, 2, 3, 79, 80, 81, 85, 90, 91, api.MaxPort),
	}
	for _, name := range []string{"a", "b", "k", "l"} {
		if r.Intn(2) == 0 {
			out.Headers = append(out.Headers, api.Field{Name: name, Value: pick(r, "", "a", "ab", "x", "xy", "y")})
		}
	}
	return out
}

// leastOf is the least request of classes at random.
func leastOf(t *testing.T, r *rand.Rand, x []api.Attr) api.Request {
	t.Helper()
	var classes []int
	for _, y := range x {
		classes = append(classes, r.Intn(y.Size))
	}
	out, e := space.Request(x, classes)
	if e != api.OK {
		t.Fatalf("Request: error %d", e)
	}
	return out
}

// copyOf has no memory in common with an image.
func copyOf(i api.Image) api.Image {
	i.Space, i.Order, i.Nodes = slices.Clone(i.Space), slices.Clone(i.Order), slices.Clone(i.Nodes)
	for k, n := range i.Nodes {
		i.Nodes[k].Kids = slices.Clone(n.Kids)
	}
	for k := range i.Space {
		x := &i.Space[k]
		x.Rows, x.Cuts, x.Methods = slices.Clone(x.Rows), slices.Clone(x.Cuts), slices.Clone(x.Methods)
		x.Auto.Next, x.Auto.Out = slices.Clone(x.Auto.Next), slices.Clone(x.Auto.Out)
	}
	return i
}

// inParallel runs a test with several seeds; all have ended behind it.
func inParallel(t *testing.T, run func(t *testing.T, r *rand.Rand)) {
	t.Run("seeds", func(t *testing.T) {
		for seed := range 6 {
			t.Run(fmt.Sprint(seed), func(t *testing.T) {
				t.Parallel()
				run(t, rand.New(rand.NewSource(int64(seed)+210)))
			})
		}
	})
}
