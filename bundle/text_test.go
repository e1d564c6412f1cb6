package bundle_test

import (
	"fmt"
	"math/rand"
	"slices"
	"strings"
	"sync"
	"testing"

	"lychgate/api"
	"lychgate/bundle"
	"lychgate/codec"
	"lychgate/request"
)

func wantText(t *testing.T, i api.Image, want string) {
	t.Helper()
	got := encoded(t, i)
	if body(got) != want {
		t.Fatalf("%q\nwant %q", body(got), want)
	}
	sum := codec.Sum(want)
	if end := got[len(got)-4:]; end != string([]byte{byte(sum), byte(sum >> 8), byte(sum >> 16), byte(sum >> 24)}) {
		t.Fatalf("the check %q of %d", end, sum)
	}
	j, e := bundle.Decode(got)
	if e != api.OK {
		t.Fatalf("Decode: error %d", e)
	}
	wantImage(t, "Decode", j, i)
}

// plain is the front of each text of an image whose attributes have one class each, of four of them.
func plain() string {
	return "LYCH\x01\x04" + "\x01\x00\x00\x00\x00\x01\x00\x00\x00\x00\x00\x00" + "\x02\x00\x00\x00\x00\x01\x00\x00\x00" + "\x03\x00\x00\x00\x00\x00\x00" + "\x04\x00" + wordsAuto(request.Paths())
}

func TestTextWithoutRules(t *testing.T) {
	i := image(t, "")
	wantText(t, i, plain()+"\x00\x01\x02\x03"+"\x00\x00"+"\x00\x00")
	if s := encoded(t, i); !strings.HasPrefix(s, string([]byte{76, 89, 67, 72, 1})) || !strings.HasSuffix(body(s), "\x00\x00\x00\x00") {
		t.Errorf("%q", s)
	}
	i.Root = 1
	wantText(t, i, plain()+"\x00\x01\x02\x03"+"\x00\x00"+"\x00\x01")
	i.Order = []int{3, 1, 0, 2}
	wantText(t, i, plain()+"\x03\x01\x00\x02"+"\x00\x00"+"\x00\x01")
}

func TestTextOfEachKind(t *testing.T) {
	i := image(t, `allow a when addr in {128.0.0.0/1} or addr in {193.0.0.0/8}; allow b when port in {256-511} and method in {GET, PUT}; deny c when has "k-1" or path ~ "/a";`)
	l := i.Space
	want := "LYCH\x01\x05"
	want += "\x01\x02\x00\x00\x00\x09" + "\x00\x00\x00\x00\x01\x00" + "\x80\x00\x00\x00\x02\x01" + "\xc0\x00\x00\x00\x08\x01" + "\xc1\x00\x00\x00\x08\x02" + "\xc2\x00\x00\x00\x07\x01" + "\xc4\x00\x00\x00\x06\x01" + "\xc8\x00\x00\x00\x05\x01" + "\xd0\x00\x00\x00\x04\x01" + "\xe0\x00\x00\x00\x03\x01"
	want += "\x02\x01\x00\x00\x00\x03" + "\x00\x00\x00" + "\x01\x00\x01" + "\x02\x00\x00"
	want += "\x03\x01\x00\x00\x00\x00\x02" + "\x00\x03GET\x01" + "\x00\x03PUT\x01"
	want += "\x04\x01" + wordsAuto(l[3].Auto)
	want += "\x05\x01" + "\x00\x03k-1\x00" + wordsAuto(l[4].Auto)
	want += "\x00\x01\x02\x03\x04"
	// 2: no k-1; 3: no /a, and that; 4: GET or PUT, then 3; 5: the ports, then 4; 6: the first class of addresses goes to 5, the others to 3.
	want += "\x00\x05" + "\x04\x00\x01\x00\x00" + "\x03\x00\x02\x00\x00" + "\x02\x00\x00\x00\x03" + "\x01\x00\x00\x00\x04" + "\x00\x00\x05\x00\x03\x00\x03" + "\x00\x06"
	wantText(t, i, want)
}

// A method's rest may have any class but one that it alone has to give to others.
func TestTextOfRest(t *testing.T) {
	i := image(t, "allow a when method in {A};")
	// The least method is A: its class is 0, and that of the others 1.
	wantText(t, i, "LYCH\x01\x04"+plain()[6:27]+"\x03\x01\x01\x00\x00\x00\x01\x00\x01A\x00"+plain()[34:]+"\x00\x01\x02\x03"+"\x00\x01\x02\x00\x01\x00\x00"+"\x00\x02")
}

// Names of as many bytes as may be.
func TestTextOfLongNames(t *testing.T) {
	method, name := strings.Repeat("Z", api.MaxMethod), strings.Repeat("z", api.MaxName)
	i := image(t, fmt.Sprintf("allow a when method in {%s} and has %q;", method, name))
	s := encoded(t, i)
	for _, part := range []string{"\x00\x10" + method + "\x01", "\x05\x01\x00\x20" + name + "\x00"} {
		if strings.Count(s, part) != 1 {
			t.Errorf("%q is not there", part)
		}
	}
	wantText(t, i, body(wordsText(i)))
}

func TestDecodeOfNoText(t *testing.T) {
	for _, s := range []string{"", "\x00", "L", "LYCH", "LYCH\x01", "\x00\x00\x00\x00", "LYCH\x01\x04", strings.Repeat("\x00", 300), strings.Repeat("LYCH\x01", 60), "LYCHGATE"} {
		wantNoImage(t, s, s)
		wantNoImage(t, s+" and its check", checked(s))
	}
}

func TestDecodeOfAnotherHead(t *testing.T) {
	s := body(encoded(t, image(t, several)))
	if !wantDecode(t, "as it is", checked(s)) {
		t.Fatal("no image")
	}
	for k := range 5 {
		for b := range 256 {
			if byte(b) != s[k] {
				wantNoImage(t, fmt.Sprint(b, " at ", k), checked(s[:k]+string([]byte{byte(b)})+s[k+1:]))
			}
		}
	}
	wantNoImage(t, "without it", checked(s[5:]))
	wantNoImage(t, "without the number", checked(s[:4]+s[5:]))
	wantNoImage(t, "twice", checked(s[:5]+s))
	wantNoImage(t, "a byte ahead of it", checked("\x00"+s))
	wantNoImage(t, "small letters", checked("lych"+s[4:]))
}

// The check is asked of all ahead of it, whatever that is, and stands with its lowest byte first.
func TestDecodeOfAnotherCheck(t *testing.T) {
	s := encoded(t, image(t, several))
	end := []byte(s[len(s)-4:])
	for k := range 4 {
		for b := range 256 {
			if other := slices.Clone(end); byte(b) != end[k] {
				other[k] = byte(b)
				wantNoImage(t, "another check", body(s)+string(other))
			}
		}
	}
	back := slices.Clone(end)
	slices.Reverse(back)
	wantNoImage(t, "the highest byte first", body(s)+string(back))
	wantNoImage(t, "no check", body(s))
	wantNoImage(t, "the check of what is behind the head", body(s)+checked(s[5 : len(s)-4])[len(s)-9:])
	wantNoImage(t, "a check of all, again", checked(s))
}

// What is cut, or has more behind it, with the check that it had, or a right one.
func TestDecodeOfMoreAndLess(t *testing.T) {
	for _, source := range []string{"", several, `allow a when path ~ "/a/*" and header "k" ~ "x*";`} {
		s := encoded(t, image(t, source))
		for k := range len(s) {
			wantNoImage(t, fmt.Sprint(k, " bytes of it"), s[:k])
			wantNoImage(t, fmt.Sprint("without ", k, " bytes ahead"), s[k+1:])
			if k < len(s)-4 {
				wantNoImage(t, fmt.Sprint(k, " bytes of it, and their check"), checked(s[:k]))
			}
		}
		for b := range 256 {
			more := string([]byte{byte(b)})
			wantNoImage(t, "a byte more", s+more)
			wantNoImage(t, "a byte more ahead of the check", checked(body(s)+more))
			wantNoImage(t, "a byte ahead", more+s)
		}
		wantNoImage(t, "twice", s+s)
		wantNoImage(t, "twice, with one check", checked(body(s)+body(s)))
		wantNoImage(t, "many noughts", s+strings.Repeat("\x00", 1000))
		wantNoImage(t, "many noughts ahead of the check", checked(body(s)+strings.Repeat("\x00", 1000)))
	}
}

// wantWrongText is about the text of several, laid down with something else in it.
func wantWrongText(t *testing.T, what string, change func(i *api.Image)) {
	t.Helper()
	i := copyOf(image(t, several))
	change(&i)
	wantNoImage(t, what, wordsText(i))
}

func TestDecodeOfWrongAttributes(t *testing.T) {
	wantWrongText(t, "no attributes", func(i *api.Image) { i.Space = nil })
	wantWrongText(t, "three of them", func(i *api.Image) { i.Space, i.Order = i.Space[:3], i.Order[:3] })
	wantWrongText(t, "no path", func(i *api.Image) { i.Space = slices.Delete(i.Space, 3, 4) })
	wantWrongText(t, "the port ahead of the address", func(i *api.Image) { i.Space[0], i.Space[1] = i.Space[1], i.Space[0] })
	wantWrongText(t, "a header ahead of all", func(i *api.Image) { i.Space = append(i.Space[4:5:5], i.Space...) })
	wantWrongText(t, "a header twice", func(i *api.Image) { i.Space, i.Order = append(i.Space, i.Space[4]), append(i.Order, 5) })
	wantWrongText(t, "a thirteenth attribute", func(i *api.Image) {
		for len(i.Space) < 13 {
			x := i.Space[4]
			x.Name = string([]byte{'a' + byte(len(i.Space)), 'z'})
			i.Space, i.Order = append(i.Space, x), append(i.Order, len(i.Space))
		}
	})
	for _, kind := range []int{0, 1, 2, 3, 4, 6, 7, 128, 255} {
		wantWrongText(t, fmt.Sprint("the kind ", kind), func(i *api.Image) { i.Space[4].Kind = kind })
	}
	for _, size := range []int{1, 3, 128, 255, 256} {
		for k := range 5 {
			if size > 1 || k != 3 {
				wantWrongText(t, fmt.Sprint("the size ", size), func(i *api.Image) { i.Space[k].Size = size })
			}
		}
	}
}

func TestDecodeOfWrongNumbers(t *testing.T) {
	wantWrongText(t, "no rows", func(i *api.Image) { i.Space[0].Rows = nil })
	wantWrongText(t, "a row too few", func(i *api.Image) { i.Space[0].Rows = i.Space[0].Rows[1:] })
	wantWrongText(t, "rows in another order", func(i *api.Image) { slices.Reverse(i.Space[0].Rows) })
	wantWrongText(t, "an address too far", func(i *api.Image) { i.Space[0].Rows[2].Prefix.Addr++ })
	wantWrongText(t, "bits", func(i *api.Image) { i.Space[0].Rows[0].Prefix.Bits = 33 })
	wantWrongText(t, "a label", func(i *api.Image) { i.Space[0].Rows[0].Label = 2 })
	wantWrongText(t, "labels the other way round", func(i *api.Image) {
		for k := range i.Space[0].Rows {
			i.Space[0].Rows[k].Label ^= 1
		}
	})
	wantWrongText(t, "no cuts", func(i *api.Image) { i.Space[1].Cuts = nil })
	wantWrongText(t, "a first cut above 0", func(i *api.Image) { i.Space[1].Cuts[0].From = 1 })
	wantWrongText(t, "cuts that do not rise", func(i *api.Image) { i.Space[1].Cuts[2].From = 80 })
	wantWrongText(t, "a cut of the class ahead", func(i *api.Image) { i.Space[1].Cuts[2].Class = 1 })
	wantWrongText(t, "a class that is none", func(i *api.Image) { i.Space[1].Cuts[1].Class = 2 })
	wantWrongText(t, "a cut more", func(i *api.Image) { i.Space[1].Cuts = append(i.Space[1].Cuts, api.Cut{From: 200}) })
	s := body(encoded(t, image(t, several)))
	for _, n := range []int{0, 1, 8, 10, 11, 255, 256, 65536, 1 << 31, 1<<32 - 1} {
		wantNoImage(t, fmt.Sprint(n, " rows are told"), checked(s[:8]+by(4, n)+s[12:]))
		at := strings.Index(s, "\x02\x01\x00\x00\x00\x03") + 2
		wantNoImage(t, fmt.Sprint(n, " cuts are told"), checked(s[:at]+by(4, n)+s[at+4:]))
	}
}

func TestDecodeOfWrongMethods(t *testing.T) {
	for _, s := range []string{"", "get", "G E", "G\x00", "ABCDEFGHIJKLMNOPQ", strings.Repeat("A", 300), "GET\n"} {
		wantWrongText(t, fmt.Sprintf("the method %q", s), func(i *api.Image) { i.Space[2].Methods[0].Name = s })
	}
	wantWrongText(t, "a method twice", func(i *api.Image) {
		i.Space[2].Methods = append(i.Space[2].Methods, i.Space[2].Methods[0])
	})
	wantWrongText(t, "methods that fall", func(i *api.Image) {
		i.Space[2].Methods = append(i.Space[2].Methods, api.Method{Name: "B", Class: 1})
	})
	wantWrongText(t, "the class of the rest", func(i *api.Image) { i.Space[2].Methods[0].Class = 0 })
	wantWrongText(t, "a class that is none", func(i *api.Image) { i.Space[2].Methods[0].Class = 2 })
	wantWrongText(t, "no methods", func(i *api.Image) { i.Space[2].Methods = nil })
	wantWrongText(t, "another rest", func(i *api.Image) { i.Space[2].Rest = 1 })
	s := body(encoded(t, image(t, several)))
	at := strings.Index(s, "\x03\x01\x00\x00\x00\x00\x01\x00\x03GET") + 3
	for _, n := range []int{0, 2, 1 << 16, 1 << 24, 1<<32 - 1} {
		wantNoImage(t, fmt.Sprint(n, " methods are told"), checked(s[:at]+by(4, n)+s[at+4:]))
	}
	for _, n := range []int{0, 2, 4, 16, 17, 255, 65535} {
		wantNoImage(t, fmt.Sprint(n, " letters are told"), checked(s[:at+4]+by(2, n)+s[at+6:]))
	}
}

func TestDecodeOfWrongTexts(t *testing.T) {
	for k, what := range map[int]string{3: "path", 4: "header"} {
		auto := func(i *api.Image) *api.Auto { return &i.Space[k].Auto }
		wantWrongText(t, what+": a column", func(i *api.Image) { auto(i).Bytes = "\x01" + auto(i).Bytes[1:] })
		wantWrongText(t, what+": a column too far", func(i *api.Image) { auto(i).Bytes = auto(i).Bytes[:255] + "\xff" })
		wantWrongText(t, what+": bytes of one column", func(i *api.Image) { auto(i).Bytes = strings.Repeat("\x00", 256) })
		wantWrongText(t, what+": another state", func(i *api.Image) { auto(i).Next[0] = 0 })
		wantWrongText(t, what+": a state that is none", func(i *api.Image) { auto(i).Next[1] = 255 })
		wantWrongText(t, what+": a label", func(i *api.Image) { auto(i).Out[0]++ })
		wantWrongText(t, what+": a label that is none", func(i *api.Image) { auto(i).Out[0] = 257 })
		wantWrongText(t, what+": a label of another class", func(i *api.Image) { auto(i).Out[0] = 512 })
		wantWrongText(t, what+": a state less", func(i *api.Image) { auto(i).Out = auto(i).Out[1:] })
		wantWrongText(t, what+": a state more", func(i *api.Image) { auto(i).Out = append(auto(i).Out, 0) })
		wantWrongText(t, what+": nothing", func(i *api.Image) {
			*auto(i) = api.Auto{Bytes: strings.Repeat("\x00", 256), Next: []int{0}, Out: []int{0}}
		})
		wantWrongText(t, what+": all texts", func(i *api.Image) {
			*auto(i) = api.Auto{Bytes: strings.Repeat("\x00", 256), Next: []int{0}, Out: []int{1}}
		})
	}
	for _, s := range []string{"", "K", "k k", strings.Repeat("k", 33), strings.Repeat("k", 1000)} {
		wantWrongText(t, fmt.Sprintf("the name %q", s), func(i *api.Image) { i.Space[4].Name = s })
	}
	wantWrongText(t, "another rest", func(i *api.Image) { i.Space[4].Rest = 1 })
}

func TestDecodeOfWrongDiagrams(t *testing.T) {
	wantWrongText(t, "a place twice", func(i *api.Image) { i.Order[0] = 1 })
	wantWrongText(t, "no such place", func(i *api.Image) { i.Order[0] = 5 })
	wantWrongText(t, "no such place at all", func(i *api.Image) { i.Order[3] = 255 })
	wantWrongText(t, "a level that is none", func(i *api.Image) { i.Nodes[0] = node(5) })
	wantWrongText(t, "no such level at all", func(i *api.Image) { i.Nodes[0] = node(255) })
	wantWrongText(t, "a kid that is not there", func(i *api.Image) { i.Nodes[0].Kids[1] = 2 })
	wantWrongText(t, "no such kid at all", func(i *api.Image) { i.Nodes[0].Kids[1] = 65535 })
	wantWrongText(t, "kids that are the same", func(i *api.Image) { i.Nodes[0].Kids[1] = 0 })
	wantWrongText(t, "a node twice", func(i *api.Image) { i.Nodes, i.Root = append(i.Nodes, i.Nodes[3]), 6 })
	s := body(encoded(t, image(t, several)))
	at := len(s) - 2 - 4*5 - 2
	for _, n := range []int{0, 1, 2, 3, 5, 6, 255, 8192, 8193, 65535} {
		wantNoImage(t, fmt.Sprint(n, " nodes are told"), checked(s[:at]+by(2, n)+s[at+2:]))
	}
	for _, n := range []int{0, 1, 2, 3, 4, 6, 8193, 65535} {
		wantWrongText(t, fmt.Sprint("the root ", n), func(i *api.Image) { i.Root = n })
	}
	wantWrongText(t, "the root true, with one node", func(i *api.Image) { i.Nodes, i.Root = i.Nodes[:1], 1 })
}

// Bytes of right texts are changed at random, with a right check behind them.
func TestDecodeAtRandom(t *testing.T) {
	var lock sync.Mutex
	met := map[bool]int{}
	inParallel(t, func(t *testing.T, r *rand.Rand) {
		for range 20 {
			s := []byte(body(encoded(t, randomImage(t, r))))
			for range 20 {
				b := slices.Clone(s)
				for range 1 + r.Intn(2) {
					// The diagram, at the end, is what may be another one without being wrong.
					at := pick(r, r.Intn(len(b)), len(b)-1-r.Intn(min(len(b), 20)))
					b[at] = pick(r, byte(r.Intn(256)), byte(r.Intn(4)), b[at]+1, b[at]-1)
				}
				is := wantDecode(t, "changed", checked(string(b)))
				lock.Lock()
				met[is && string(b) != string(s)]++
				lock.Unlock()
			}
		}
	})
	if met[true] < 30 || met[false] < 1500 {
		t.Errorf("%v", met)
	}
}

// Any bytes.
func TestDecodeOfAnyBytes(t *testing.T) {
	inParallel(t, func(t *testing.T, r *rand.Rand) {
		heads := []string{"", "LYCH\x01", "LYCH\x01\x04\x01", plain()[:20]}
		for range 2000 {
			b := make([]byte, r.Intn(80))
			for k := range b {
				b[k] = pick(r, byte(r.Intn(256)), byte(r.Intn(6)))
			}
			s := pick(r, heads...) + string(b)
			wantNoImage(t, "any bytes", s)
			wantNoImage(t, "any bytes and their check", checked(s))
		}
	})
}
