package lower_test

import (
	"fmt"
	"math/rand"
	"reflect"
	"runtime"
	"slices"
	"strings"
	"testing"
	"unsafe"

	"lychgate/api"
	"lychgate/lower"
)

// roomy is a copy of a thing all of whose lists have spare room, with marks in it.
func roomy[T any](x T) T {
	return deepCopy(reflect.ValueOf(x)).Interface().(T)
}

func deepCopy(v reflect.Value) reflect.Value {
	switch v.Kind() {
	case reflect.Slice:
		if v.Len() == 0 {
			return v
		}
		out := reflect.MakeSlice(v.Type(), v.Len()+2, v.Len()+2)
		for i := range v.Len() {
			out.Index(i).Set(deepCopy(v.Index(i)))
		}
		for i := v.Len(); i < out.Len(); i++ {
			mark(out.Index(i))
		}
		return out.Slice(0, v.Len())
	case reflect.Struct:
		out := reflect.New(v.Type()).Elem()
		for i := range v.NumField() {
			out.Field(i).Set(deepCopy(v.Field(i)))
		}
		return out
	case reflect.String:
		return reflect.ValueOf(strings.Clone(v.String())).Convert(v.Type())
	}
	return v
}

// mark writes what no call would.
func mark(v reflect.Value) {
	switch v.Kind() {
	case reflect.Struct:
		for i := range v.NumField() {
			mark(v.Field(i))
		}
	case reflect.Int:
		v.SetInt(-77)
	case reflect.String:
		v.SetString("ROOM")
	case reflect.Bool:
		v.SetBool(true)
	}
}

// spoil writes into all lists of a thing, those within first, and their spare room.
func spoil(v reflect.Value) {
	switch v.Kind() {
	case reflect.Slice:
		v = v.Slice(0, v.Cap())
		for i := range v.Len() {
			spoil(v.Index(i))
			mark(v.Index(i))
		}
	case reflect.Struct:
		for i := range v.NumField() {
			spoil(v.Field(i))
		}
	}
}

// tellFull tells all of a thing, the spare room of its lists too.
func tellFull(x any) string {
	var out strings.Builder
	var tell func(v reflect.Value)
	tell = func(v reflect.Value) {
		switch v.Kind() {
		case reflect.Slice:
			fmt.Fprint(&out, "[", v.Len(), ": ")
			for i := range v.Cap() {
				tell(v.Slice(0, v.Cap()).Index(i))
			}
			out.WriteString("]")
		case reflect.Struct:
			for i := range v.NumField() {
				tell(v.Field(i))
			}
		default:
			fmt.Fprintf(&out, "%v,", v)
		}
	}
	tell(reflect.ValueOf(x))
	return out.String()
}

// room is where a list or a text lies.
type room struct{ from, to uintptr }

// rooms are those of all lists and texts of a thing, spare room too.
func rooms(x any) []room {
	var out []room
	var look func(v reflect.Value)
	look = func(v reflect.Value) {
		switch v.Kind() {
		case reflect.Slice:
			if v.Cap() > 0 {
				from := v.Pointer()
				out = append(out, room{from, from + uintptr(v.Cap())*v.Type().Elem().Size()})
			}
			for i := range v.Len() {
				look(v.Index(i))
			}
		case reflect.Struct:
			for i := range v.NumField() {
				look(v.Field(i))
			}
		case reflect.String:
			if s := v.String(); s != "" {
				from := uintptr(unsafe.Pointer(unsafe.StringData(s)))
				out = append(out, room{from, from + uintptr(len(s))})
			}
		}
	}
	look(reflect.ValueOf(x))
	return out
}

func wantApart(t *testing.T, what string, x, y any) {
	t.Helper()
	for _, a := range rooms(x) {
		for _, b := range rooms(y) {
			if a.from < b.to && b.from < a.to {
				t.Fatalf("%s: memory is shared", what)
			}
		}
	}
}

// wantOwn: no two lists of one answer share any.
func wantOwn(t *testing.T, what string, x any) {
	t.Helper()
	l := rooms(x)
	slices.SortFunc(l, func(a, b room) int { return int(a.from) - int(b.from) })
	for i := 1; i < len(l); i++ {
		if l[i].from < l[i-1].to {
			t.Fatalf("%s: two lists share memory", what)
		}
	}
}

const memorySource = `let own = addr in {10.0.0.0/8, 11.0.0.0/8}; allow a when own and (port in {80, 443-445} or method in {GET, PUT}); deny b when header "x-state" ~ "off*" or path ~ "/[ab]/*"; allow c when has "x-key";`

func TestListsAreNotWrittenInto(t *testing.T) {
	l := roomy(policies(t, memorySource, chapter))
	was := tellFull(l)
	for _, most := range []int{api.MaxNodes, 3, -1} {
		lower.Compile(l, most)
	}
	lower.Bound(l[0])
	if tellFull(l) != was {
		t.Errorf("a policy was written into")
	}
	p := roomy(program(t, memorySource, chapter))
	q := roomy(asked(t, "GET /a/b 10.1.2.3:80\nx-key:1\n\n"))
	was = tellFull(p) + tellFull(q)
	a, _, e := lower.Open(p, api.MaxNodes)
	if e != api.OK {
		t.Fatalf("error %d", e)
	}
	lower.Open(p, 2)
	lower.Right(p)
	lower.Judge(p, 0, q)
	lower.Total(a, p.Rules, 0)
	lower.Total(a, p.Rules, 1)
	lower.Close(p.Space, p.Order, a, p.Rules)
	slices.Reverse(p.Rules)
	lower.Close(p.Space, p.Order, a, p.Rules)
	slices.Reverse(p.Rules)
	if tellFull(p)+tellFull(q) != was {
		t.Errorf("a program or a request was written into")
	}
}

func TestListsAreNotKept(t *testing.T) {
	l := roomy(policies(t, memorySource, chapter))
	p, e := lower.Compile(l, api.MaxNodes)
	want := tell(p)
	wantApart(t, "Compile", p, l)
	spoil(reflect.ValueOf(l))
	if tell(p) != want || e != api.OK {
		t.Errorf("Compile: %s, error %d", tell(p), e)
	}
	given := roomy(p)
	a, roots, e := lower.Open(given, api.MaxNodes)
	wantApart(t, "Open", roots, given)
	spoil(reflect.ValueOf(given))
	if !slices.Equal(roots, rootsOf(p)) || e != api.OK {
		t.Errorf("Open: %v, error %d", roots, e)
	}
	wantArena(t, a, sizesOf(p.Space, p.Order), api.MaxNodes, p.Nodes)
	given = roomy(p)
	q, e := lower.Close(given.Space, given.Order, a, given.Rules)
	wantApart(t, "Close", q, given)
	spoil(reflect.ValueOf(given))
	if tell(q) != want || e != api.OK {
		t.Errorf("Close: %s, error %d", tell(q), e)
	}
	// Neither what it is made of nor the arena it was taken from is looked at later.
	if e := a.Back(0); e != api.OK || tell(q) != want || !lower.Right(q) {
		t.Errorf("Close: %s, error %d", tell(q), e)
	}
}

func TestAnswersAreNewMemory(t *testing.T) {
	l := policies(t, memorySource, chapter)
	first, _ := lower.Compile(l, api.MaxNodes)
	second, _ := lower.Compile(l, api.MaxNodes)
	wantOwn(t, "Compile", first)
	wantApart(t, "Compile", first, second)
	want := tell(second)
	a, roots, _ := lower.Open(second, api.MaxNodes)
	b, again, _ := lower.Open(second, api.MaxNodes)
	wantOwn(t, "Open", roots)
	wantApart(t, "Open", roots, again)
	wantApart(t, "Open", roots, second)
	third, _ := lower.Close(second.Space, second.Order, a, second.Rules)
	fourth, _ := lower.Close(second.Space, second.Order, a, second.Rules)
	wantOwn(t, "Close", third)
	wantApart(t, "Close", third, fourth)
	wantApart(t, "Close", third, second)
	spoil(reflect.ValueOf(first))
	spoil(reflect.ValueOf(roots))
	spoil(reflect.ValueOf(third))
	if tell(second) != want || tell(fourth) != want || !slices.Equal(again, rootsOf(second)) {
		t.Errorf("answers share memory")
	}
	// Each arena is one of its own, and knows nothing of the lists.
	wantArena(t, a, sizesOf(second.Space, second.Order), api.MaxNodes, second.Nodes)
	if f, e := lower.Total(a, second.Rules, 0); f < 2 || e != api.OK {
		t.Errorf("Total: %d, error %d", f, e)
	}
	wantArena(t, b, sizesOf(second.Space, second.Order), api.MaxNodes, second.Nodes)
	if e := a.Back(0); e != api.OK {
		t.Fatal(e)
	}
	wantArena(t, b, sizesOf(second.Space, second.Order), api.MaxNodes, second.Nodes)
}

func heapNow() uint64 {
	runtime.GC()
	var m runtime.MemStats
	runtime.ReadMemStats(&m)
	return m.HeapAlloc
}

func TestNothingIsKept(t *testing.T) {
	l := policies(t, memorySource, chapter)
	r := asked(t, "GET /a/b 10.1.2.3:80\nx-key:1\n\n")
	var now [2]uint64
	for i := range now {
		for range 20 {
			p, _ := lower.Compile(l, api.MaxNodes)
			a, _, _ := lower.Open(p, api.MaxNodes)
			lower.Total(a, p.Rules, 0)
			lower.Close(p.Space, p.Order, a, p.Rules)
			lower.Judge(p, 0, r)
			lower.Bound(l[0])
			lower.Compile(l, 3)
		}
		now[i] = heapNow()
	}
	if now[1] > now[0]+1<<18 {
		t.Errorf("%d bytes, and then %d", now[0], now[1])
	}
	// Goroutines have ended when a call answers.
	ahead := runtime.NumGoroutine()
	lower.Compile(l, api.MaxNodes)
	if runtime.NumGoroutine() > ahead {
		t.Errorf("%d goroutines, and then %d", ahead, runtime.NumGoroutine())
	}
}

// Several at once may ask of the same policies and programs, since nothing is changed in them.
func TestCallsDoNotDisturbOneAnother(t *testing.T) {
	l := policies(t, memorySource, chapter)
	p := program(t, memorySource, chapter)
	want := tell(p)
	for seed := range 6 {
		t.Run(fmt.Sprint(seed), func(t *testing.T) {
			t.Parallel()
			r := rand.New(rand.NewSource(int64(seed)))
			for range 10 {
				if q, e := lower.Compile(l, api.MaxNodes); tell(q) != want || e != api.OK {
					t.Errorf("%s, error %d", tell(q), e)
				}
				a, _, e := lower.Open(p, api.MaxNodes)
				if e != api.OK {
					t.Fatalf("error %d", e)
				}
				if q, e := lower.Close(p.Space, p.Order, a, p.Rules); tell(q) != want || e != api.OK {
					t.Errorf("%s, error %d", tell(q), e)
				}
				q := randomRequest(r)
				wantJudge(t, p, 0, q, wordsJudge(t, p, 0, q))
			}
		})
	}
}
