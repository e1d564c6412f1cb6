package pass_test

import (
	"fmt"
	"reflect"
	"runtime"
	"slices"
	"strings"
	"testing"
	"unsafe"

	"lychgate/api"
	"lychgate/pass"
)

// roomy is a copy of a thing all of whose lists have spare room, with marks in it.
func roomy[T any](x T) T {
	return deepCopy(reflect.ValueOf(x)).Interface().(T)
}

func deepCopy(v reflect.Value) reflect.Value {
	switch v.Kind() {
	case reflect.Slice:
		if v.Len() == 0 {
			return v
		}
		out := reflect.MakeSlice(v.Type(), v.Len()+2, v.Len()+2)
		for i := range v.Len() {
			out.Index(i).Set(deepCopy(v.Index(i)))
		}
		for i := v.Len(); i < out.Len(); i++ {
			mark(out.Index(i))
		}
		return out.Slice(0, v.Len())
	case reflect.Struct:
		out := reflect.New(v.Type()).Elem()
		for i := range v.NumField() {
			out.Field(i).Set(deepCopy(v.Field(i)))
		}
		return out
	case reflect.String:
		return reflect.ValueOf(strings.Clone(v.String())).Convert(v.Type())
	}
	return v
}

// mark writes what no call would.
func mark(v reflect.Value) {
	switch v.Kind() {
	case reflect.Struct:
		for i := range v.NumField() {
			mark(v.Field(i))
		}
	case reflect.Int:
		v.SetInt(-77)
	case reflect.String:
		v.SetString("ROOM")
	}
}

// spoil writes into all lists of a thing, those within first, and their spare room.
func spoil(v reflect.Value) {
	switch v.Kind() {
	case reflect.Slice:
		v = v.Slice(0, v.Cap())
		for i := range v.Len() {
			spoil(v.Index(i))
			mark(v.Index(i))
		}
	case reflect.Struct:
		for i := range v.NumField() {
			spoil(v.Field(i))
		}
	}
}

// tellFull tells all of a thing, the spare room of its lists too.
func tellFull(x any) string {
	var out strings.Builder
	var tell func(v reflect.Value)
	tell = func(v reflect.Value) {
		switch v.Kind() {
		case reflect.Slice:
			fmt.Fprint(&out, "[", v.Len(), ": ")
			for i := range v.Cap() {
				tell(v.Slice(0, v.Cap()).Index(i))
			}
			out.WriteString("]")
		case reflect.Struct:
			for i := range v.NumField() {
				tell(v.Field(i))
			}
		default:
			fmt.Fprintf(&out, "%v,", v)
		}
	}
	tell(reflect.ValueOf(x))
	return out.String()
}

// room is where a list or a text lies.
type room struct{ from, to uintptr }

// rooms are those of all lists and texts of a thing, spare room too.
func rooms(x any) []room {
	var out []room
	var look func(v reflect.Value)
	look = func(v reflect.Value) {
		switch v.Kind() {
		case reflect.Slice:
			if v.Cap() > 0 {
				from := v.Pointer()
				out = append(out, room{from, from + uintptr(v.Cap())*v.Type().Elem().Size()})
			}
			for i := range v.Len() {
				look(v.Index(i))
			}
		case reflect.Struct:
			for i := range v.NumField() {
				look(v.Field(i))
			}
		case reflect.String:
			if s := v.String(); s != "" {
				from := uintptr(unsafe.Pointer(unsafe.StringData(s)))
				out = append(out, room{from, from + uintptr(len(s))})
			}
		}
	}
	look(reflect.ValueOf(x))
	return out
}

func wantApart(t *testing.T, x, y any) {
	t.Helper()
	for _, a := range rooms(x) {
		for _, b := range rooms(y) {
			if a.from < b.to && b.from < a.to {
				t.Fatal("memory is shared")
			}
		}
	}
}

// wantOwn: no two lists of one answer share any.
func wantOwn(t *testing.T, x any) {
	t.Helper()
	l := rooms(x)
	slices.SortFunc(l, func(a, b room) int { return int(a.from) - int(b.from) })
	for i := 1; i < len(l); i++ {
		if l[i].from < l[i-1].to {
			t.Fatal("two lists share memory")
		}
	}
}

// call is Order, or Run by some passes.
type call func(p api.Program, most int) (api.Program, api.Errno)

// calls are some, by their names.
func calls() map[string]call {
	out := map[string]call{"Order": pass.Order}
	for _, passes := range [][]int{nil, {1}, {2}, {3}, {4}, {1, 2}, {4, 4}, {4, 3, 2, 1}} {
		out[fmt.Sprint("Run by ", passes)] = func(p api.Program, most int) (api.Program, api.Errno) {
			return pass.Run(p, passes, most)
		}
	}
	return out
}

// memoryProgram has something to do for each pass, and is of two policies.
func memoryProgram(t *testing.T) api.Program {
	t.Helper()
	return program(t,
		`let own = addr in {10.0.0.0/8, 12.0.0.0/8}; let x = addr in {11.0.0.0/8} or port in {444}; allow a-1 when own and method in {GET, PUT} or port in {80, 443-445} and path ~ "/[ab]/*"; allow b-1 when own and method in {GET}; deny c-1 when header "x-state" ~ "off*"; deny d-1 when has "x-key";`,
		`let x = path ~ "/a/*" or header "x-state" ~ "offer" or header "x-key" ~ "*"; deny a-2 when port in {80}; allow c-2 when true; allow d-2 when method in {PUT};`)
}

// memoryPrograms are some in which nothing changes, or of which nothing stays, too.
func memoryPrograms(t *testing.T) []api.Program {
	t.Helper()
	return []api.Program{
		memoryProgram(t),
		program(t, ""),
		program(t, chapter),
		program(t, rows, pairs),
		program(t, pairs),
		mustRun(t, program(t, pairs), api.PassOrder),
		program(t, `let x = has "k" or method in {A} or port in {80};`),
		program(t, "allow a when true; deny b when false;", "allow a when port in {80};"),
	}
}

// The program of these tests is changed by each pass.
func TestMemoryProgram(t *testing.T) {
	p := memoryProgram(t)
	for n := 1; n <= 4; n++ {
		if q := mustRun(t, p, n); tell(q) == tell(p) {
			t.Errorf("by %d nothing changes", n)
		}
	}
}

func TestProgramsAreNotWrittenInto(t *testing.T) {
	p := roomy(memoryProgram(t))
	was := tellFull(p)
	for what, do := range calls() {
		for _, most := range []int{-1, 0, len(p.Nodes) - 1, len(p.Nodes), len(p.Nodes) + 5, len(p.Nodes) + 20, api.MaxNodes, api.MaxNodes + 1} {
			do(p, most)
		}
		if tellFull(p) != was {
			t.Fatalf("%s: a program was written into", what)
		}
	}
}

func TestProgramsAreNotKept(t *testing.T) {
	for what, do := range calls() {
		for _, p := range memoryPrograms(t) {
			p = roomy(p)
			q, e := do(p, api.MaxNodes)
			if e != api.OK {
				t.Fatalf("%s: error %d", what, e)
			}
			want := tell(q)
			wantApart(t, q, p)
			spoil(reflect.ValueOf(p))
			if tell(q) != want {
				t.Errorf("%s: %s; want %s", what, tell(q), want)
			}
		}
	}
}

func TestPassesAreNotWrittenInto(t *testing.T) {
	p := program(t, chapter)
	for _, l := range [][]int{{1}, {4, 3, 2, 1}, {2, 2}, {1, 5}, {0}} {
		passes := roomy(l)
		was := tellFull(passes)
		for _, most := range []int{-1, 0, 2, 3, api.MaxNodes} {
			q, _ := pass.Run(p, passes, most)
			wantApart(t, q, passes)
		}
		if tellFull(passes) != was {
			t.Errorf("%v was written into", l)
		}
	}
}

func TestAnswersAreNewMemory(t *testing.T) {
	for what, do := range calls() {
		for _, p := range memoryPrograms(t) {
			first, e := do(p, api.MaxNodes)
			second, f := do(p, api.MaxNodes)
			if e != api.OK || f != api.OK {
				t.Fatalf("%s: errors %d, %d", what, e, f)
			}
			wantOwn(t, first)
			wantApart(t, first, p)
			wantApart(t, first, second)
			was, want := tellFull(p), tell(second)
			spoil(reflect.ValueOf(first))
			if tellFull(p) != was || tell(second) != want {
				t.Errorf("%s: memory is shared", what)
			}
		}
	}
}

func heapNow() uint64 {
	runtime.GC()
	var m runtime.MemStats
	runtime.ReadMemStats(&m)
	return m.HeapAlloc
}

func TestNothingIsKept(t *testing.T) {
	p := memoryProgram(t)
	ahead := runtime.NumGoroutine()
	var now [2]uint64
	for i := range now {
		for range 5 {
			for _, do := range calls() {
				do(p, len(p.Nodes))
				do(p, api.MaxNodes)
			}
		}
		now[i] = heapNow()
	}
	if now[1] > now[0]+1<<18 {
		t.Errorf("%d bytes, and then %d", now[0], now[1])
	}
	if runtime.NumGoroutine() > ahead {
		t.Errorf("%d goroutines, and then %d", ahead, runtime.NumGoroutine())
	}
}

// Several at once may ask of the same program, since nothing is changed in it.
func TestCallsDoNotDisturbOneAnother(t *testing.T) {
	p := memoryProgram(t)
	want := map[string]string{}
	for what, do := range calls() {
		q, _ := do(p, api.MaxNodes)
		want[what] = tell(q)
	}
	for seed := range 6 {
		t.Run(fmt.Sprint(seed), func(t *testing.T) {
			t.Parallel()
			for what, do := range calls() {
				if q, e := do(p, api.MaxNodes); tell(q) != want[what] || e != api.OK {
					t.Errorf("%s: %s, error %d", what, tell(q), e)
				}
			}
		})
	}
}
