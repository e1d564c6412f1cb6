package fuse_test

import (
	"fmt"
	"reflect"
	"runtime"
	"slices"
	"strings"
	"testing"
	"unsafe"

	"lychgate/api"
	"lychgate/fuse"
)

// roomy is a copy of a thing all of whose lists have spare room, with marks in it.
func roomy[T any](x T) T {
	return deepCopy(reflect.ValueOf(x)).Interface().(T)
}

func deepCopy(v reflect.Value) reflect.Value {
	switch v.Kind() {
	case reflect.Slice:
		if v.Len() == 0 {
			return v
		}
		out := reflect.MakeSlice(v.Type(), v.Len()+2, v.Len()+2)
		for i := range v.Len() {
			out.Index(i).Set(deepCopy(v.Index(i)))
		}
		for i := v.Len(); i < out.Len(); i++ {
			mark(out.Index(i))
		}
		return out.Slice(0, v.Len())
	case reflect.Struct:
		out := reflect.New(v.Type()).Elem()
		for i := range v.NumField() {
			out.Field(i).Set(deepCopy(v.Field(i)))
		}
		return out
	case reflect.String:
		return reflect.ValueOf(strings.Clone(v.String())).Convert(v.Type())
	}
	return v
}

// mark writes what no call would.
func mark(v reflect.Value) {
	switch v.Kind() {
	case reflect.Struct:
		for i := range v.NumField() {
			mark(v.Field(i))
		}
	case reflect.Int:
		v.SetInt(-77)
	case reflect.String:
		v.SetString("ROOM")
	}
}

// spoil writes into all lists of a thing, those within first, and their spare room.
func spoil(v reflect.Value) {
	switch v.Kind() {
	case reflect.Slice:
		v = v.Slice(0, v.Cap())
		for i := range v.Len() {
			spoil(v.Index(i))
			mark(v.Index(i))
		}
	case reflect.Struct:
		for i := range v.NumField() {
			spoil(v.Field(i))
		}
	}
}

// tellFull tells all of a thing, the spare room of its lists too.
func tellFull(x any) string {
	var out strings.Builder
	var tell func(v reflect.Value)
	tell = func(v reflect.Value) {
		switch v.Kind() {
		case reflect.Slice:
			fmt.Fprint(&out, "[", v.Len(), ": ")
			for i := range v.Cap() {
				tell(v.Slice(0, v.Cap()).Index(i))
			}
			out.WriteString("]")
		case reflect.Struct:
			for i := range v.NumField() {
				tell(v.Field(i))
			}
		default:
			fmt.Fprintf(&out, "%v,", v)
		}
	}
	tell(reflect.ValueOf(x))
	return out.String()
}

// room is where a list or a text lies.
type room struct{ from, to uintptr }

// rooms are those of all lists and texts of a thing, spare room too.
func rooms(x any) []room {
	var out []room
	var look func(v reflect.Value)
	look = func(v reflect.Value) {
		switch v.Kind() {
		case reflect.Slice:
			if v.Cap() > 0 {
				from := v.Pointer()
				out = append(out, room{from, from + uintptr(v.Cap())*v.Type().Elem().Size()})
			}
			for i := range v.Len() {
				look(v.Index(i))
			}
		case reflect.Struct:
			for i := range v.NumField() {
				look(v.Field(i))
			}
		case reflect.String:
			if s := v.String(); s != "" {
				from := uintptr(unsafe.Pointer(unsafe.StringData(s)))
				out = append(out, room{from, from + uintptr(len(s))})
			}
		}
	}
	look(reflect.ValueOf(x))
	return out
}

func wantApart(t *testing.T, x, y any) {
	t.Helper()
	for _, a := range rooms(x) {
		for _, b := range rooms(y) {
			if a.from < b.to && b.from < a.to {
				t.Fatal("memory is shared")
			}
		}
	}
}

// wantOwn: no two lists of one answer share any.
func wantOwn(t *testing.T, x any) {
	t.Helper()
	l := rooms(x)
	slices.SortFunc(l, func(a, b room) int { return int(a.from) - int(b.from) })
	for i := 1; i < len(l); i++ {
		if l[i].from < l[i-1].to {
			t.Fatal("two lists share memory")
		}
	}
}

// memoryProgram has classes that become one, of each kind of attribute, and others, and is of two policies.
func memoryProgram(t *testing.T) api.Program {
	t.Helper()
	return program(t,
		`let own = addr in {10.0.0.0/8, 12.0.0.0/8}; let x = addr in {11.0.0.0/8} or port in {444} or method in {PUT, DELETE, B}; allow a-1 when own and (port in {80, 443-445} or method in {GET, PUT}); deny c-1 when header "x-state" ~ "off*" or path ~ "/[ab]/*"; allow e-1 when has "x-key";`,
		`let x = path ~ "/a/*" or header "x-state" ~ "offer" or header "x-key" ~ "*"; deny a-2 when port in {80}; allow c-2 when true; allow d-2 when method in {PUT};`)
}

// memoryPrograms are some of which nothing stays, or all, too.
func memoryPrograms(t *testing.T) []api.Program {
	t.Helper()
	return []api.Program{
		memoryProgram(t),
		program(t, ""),
		program(t, chapter),
		program(t, chapterFalse),
		program(t, `let x = has "k" or method in {A} or port in {80};`),
		ofTables(t, methodFirst(), "+a 100/010/001", "-b 111/000/000"),
		ofTables(t, portFirst(), "+a 010/101/010"),
	}
}

func TestProgramsAreNotWrittenInto(t *testing.T) {
	p := roomy(memoryProgram(t))
	was := tellFull(p)
	for _, most := range []int{-1, 0, len(p.Nodes) - 1, len(p.Nodes), len(p.Nodes) + 1, len(p.Nodes) + 5, len(p.Nodes) + 20, api.MaxNodes, api.MaxNodes + 1} {
		for attr := -1; attr <= len(p.Space); attr++ {
			fuse.Alike(p, attr, most)
		}
		fuse.Fuse(p, most)
		if tellFull(p) != was {
			t.Fatalf("of at most %d nodes: a program was written into", most)
		}
	}
}

func TestProgramsAreNotKept(t *testing.T) {
	for _, p := range memoryPrograms(t) {
		p = roomy(p)
		q := mustFuse(t, p)
		var classes [][]int
		for attr := range p.Space {
			l, _ := fuse.Alike(p, attr, api.MaxNodes)
			classes = append(classes, l)
		}
		want := tell(q) + tell(classes)
		wantApart(t, q, p)
		wantApart(t, classes, p)
		spoil(reflect.ValueOf(p))
		if got := tell(q) + tell(classes); got != want {
			t.Errorf("%s; want %s", got, want)
		}
	}
}

func TestAnswersAreNewMemory(t *testing.T) {
	for _, p := range memoryPrograms(t) {
		first, second := mustFuse(t, p), mustFuse(t, p)
		wantOwn(t, first)
		wantApart(t, first, p)
		wantApart(t, first, second)
		was, want := tellFull(p), tell(second)
		spoil(reflect.ValueOf(first))
		if tellFull(p) != was || tell(second) != want {
			t.Error("memory is shared")
		}
		for attr := range p.Space {
			l, _ := fuse.Alike(p, attr, api.MaxNodes)
			m, _ := fuse.Alike(p, attr, api.MaxNodes)
			wantApart(t, l, m)
			wantApart(t, l, p)
		}
	}
}

func heapNow() uint64 {
	runtime.GC()
	var m runtime.MemStats
	runtime.ReadMemStats(&m)
	return m.HeapAlloc
}

func TestNothingIsKept(t *testing.T) {
	p := memoryProgram(t)
	ahead := runtime.NumGoroutine()
	var now [2]uint64
	for i := range now {
		for range 10 {
			for _, most := range []int{len(p.Nodes), api.MaxNodes} {
				fuse.Fuse(p, most)
				fuse.Alike(p, 1, most)
			}
		}
		now[i] = heapNow()
	}
	if now[1] > now[0]+1<<18 {
		t.Errorf("%d bytes, and then %d", now[0], now[1])
	}
	if runtime.NumGoroutine() > ahead {
		t.Errorf("%d goroutines, and then %d", ahead, runtime.NumGoroutine())
	}
}

// Several at once may ask of the same program, since nothing is changed in it.
func TestCallsDoNotDisturbOneAnother(t *testing.T) {
	p := memoryProgram(t)
	want := tell(mustFuse(t, p))
	classes, _ := fuse.Alike(p, 1, api.MaxNodes)
	for seed := range 6 {
		t.Run(fmt.Sprint(seed), func(t *testing.T) {
			t.Parallel()
			for range 10 {
				if q, e := fuse.Fuse(p, api.MaxNodes); tell(q) != want || e != api.OK {
					t.Errorf("%s, error %d", tell(q), e)
				}
				if l, e := fuse.Alike(p, 1, api.MaxNodes); !slices.Equal(l, classes) || e != api.OK {
					t.Errorf("%v, error %d", l, e)
				}
			}
		})
	}
}
