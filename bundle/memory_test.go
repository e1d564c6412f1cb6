package bundle_test

import (
	"fmt"
	"reflect"
	"runtime"
	"slices"
	"strings"
	"testing"
	"unsafe"

	"lychgate/api"
	"lychgate/bundle"
)

// roomy is a copy of a thing all of whose lists have spare room, with marks in it.
func roomy[T any](x T) T {
	return deepCopy(reflect.ValueOf(x)).Interface().(T)
}

func deepCopy(v reflect.Value) reflect.Value {
	switch v.Kind() {
	case reflect.Slice:
		if v.Len() == 0 {
			return v
		}
		out := reflect.MakeSlice(v.Type(), v.Len()+2, v.Len()+2)
		for i := range v.Len() {
			out.Index(i).Set(deepCopy(v.Index(i)))
		}
		for i := v.Len(); i < out.Len(); i++ {
			mark(out.Index(i))
		}
		return out.Slice(0, v.Len())
	case reflect.Struct:
		out := reflect.New(v.Type()).Elem()
		for i := range v.NumField() {
			out.Field(i).Set(deepCopy(v.Field(i)))
		}
		return out
	case reflect.String:
		return reflect.ValueOf(strings.Clone(v.String())).Convert(v.Type())
	}
	return v
}

// mark writes what no call would.
func mark(v reflect.Value) {
	switch v.Kind() {
	case reflect.Struct:
		for i := range v.NumField() {
			mark(v.Field(i))
		}
	case reflect.Int:
		v.SetInt(-77)
	case reflect.String:
		v.SetString("ROOM")
	}
}

// spoil writes into all lists of a thing, those within first, and their spare room.
func spoil(v reflect.Value) {
	switch v.Kind() {
	case reflect.Slice:
		v = v.Slice(0, v.Cap())
		for i := range v.Len() {
			spoil(v.Index(i))
			mark(v.Index(i))
		}
	case reflect.Struct:
		for i := range v.NumField() {
			spoil(v.Field(i))
		}
	}
}

// tellFull tells all of a thing, the spare room of its lists too.
func tellFull(x any) string {
	var out strings.Builder
	var tell func(v reflect.Value)
	tell = func(v reflect.Value) {
		switch v.Kind() {
		case reflect.Slice:
			fmt.Fprint(&out, "[", v.Len(), ": ")
			for i := range v.Cap() {
				tell(v.Slice(0, v.Cap()).Index(i))
			}
			out.WriteString("]")
		case reflect.Struct:
			for i := range v.NumField() {
				tell(v.Field(i))
			}
		default:
			fmt.Fprintf(&out, "%v,", v)
		}
	}
	tell(reflect.ValueOf(x))
	return out.String()
}

// room is where a list or a text lies.
type room struct{ from, to uintptr }

// rooms are those of all lists and texts of a thing, spare room too.
func rooms(x any) []room {
	var out []room
	var look func(v reflect.Value)
	look = func(v reflect.Value) {
		switch v.Kind() {
		case reflect.Slice:
			if v.Cap() > 0 {
				from := v.Pointer()
				out = append(out, room{from, from + uintptr(v.Cap())*v.Type().Elem().Size()})
			}
			for i := range v.Len() {
				look(v.Index(i))
			}
		case reflect.Struct:
			for i := range v.NumField() {
				look(v.Field(i))
			}
		case reflect.String:
			// A text of one byte lies in a table that the language has of all.
			if s := v.String(); len(s) > 1 {
				from := uintptr(unsafe.Pointer(unsafe.StringData(s)))
				out = append(out, room{from, from + uintptr(len(s))})
			}
		}
	}
	look(reflect.ValueOf(x))
	return out
}

func wantApart(t *testing.T, x, y any) {
	t.Helper()
	for _, a := range rooms(x) {
		for _, b := range rooms(y) {
			if a.from < b.to && b.from < a.to {
				t.Fatal("memory is shared")
			}
		}
	}
}

// wantOwn: no two lists of one answer share any.
func wantOwn(t *testing.T, x any) {
	t.Helper()
	l := rooms(x)
	slices.SortFunc(l, func(a, b room) int { return int(a.from) - int(b.from) })
	for i := 1; i < len(l); i++ {
		if l[i].from < l[i-1].to {
			t.Fatal("two lists share memory")
		}
	}
}

// memorySources have an attribute of each kind, and headers of several letters.
func memorySources() []string {
	return []string{"", several, "allow a when true;", `allow a when method in {GET, PUT, POST} and has "x-key"; deny b when header "x-state" ~ "off*" or path ~ "/a/*"; allow c when port in {80-90}; allow d when addr in {10.0.0.0/8} and header "x-key" ~ "ab";`}
}

func TestProgramsAreNotWrittenInto(t *testing.T) {
	for _, s := range memorySources() {
		p := roomy(program(t, s))
		was := tellFull(p)
		for _, most := range []int{-1, 0, len(p.Nodes) - 1, len(p.Nodes), len(p.Nodes) + 3, api.MaxNodes, api.MaxNodes + 1} {
			bundle.Seal(p, most)
		}
		if tellFull(p) != was {
			t.Fatalf("%s: it was written into", s)
		}
	}
}

func TestImagesAreNotWrittenInto(t *testing.T) {
	for _, s := range memorySources() {
		i := roomy(image(t, s))
		r := roomy(asked(t, "GET /a/b 10.0.0.1:80\na:b\nk:v\nx-key:ab\n\n"))
		was := tellFull(i) + tellFull(r)
		for range 2 {
			if !bundle.Right(i) {
				t.Fatal("not right")
			}
			encoded(t, i)
			bundle.Judge(i, r)
			wrong := r
			wrong.Port = -1
			bundle.Judge(i, wrong)
			bad := i
			bad.Root = 99
			bundle.Right(bad)
			bundle.Encode(bad)
			bundle.Judge(bad, r)
		}
		if tellFull(i)+tellFull(r) != was {
			t.Fatalf("%s: it was written into", s)
		}
	}
}

func TestWhatIsHandedInIsNotKept(t *testing.T) {
	for _, s := range memorySources() {
		p := roomy(program(t, s))
		i := sealed(t, p)
		want := tell(i)
		wantApart(t, i, p)
		spoil(reflect.ValueOf(p))
		if tell(i) != want {
			t.Fatalf("%s: the program is kept", s)
		}
		j := roomy(i)
		u := encoded(t, j)
		wantApart(t, u, j)
		back, e := bundle.Decode(u)
		if e != api.OK {
			t.Fatalf("error %d", e)
		}
		wantApart(t, back, u)
		spoil(reflect.ValueOf(j))
		if tell(back) != want || encoded(t, back) != u {
			t.Fatalf("%s: the image is kept", s)
		}
	}
}

func TestAnswersAreNewMemory(t *testing.T) {
	for _, s := range memorySources() {
		p := program(t, s)
		u := encoded(t, sealed(t, p))
		for what, make := range map[string]func() api.Image{
			"Seal": func() api.Image { return sealed(t, p) },
			"Decode": func() api.Image {
				i, _ := bundle.Decode(u)
				return i
			},
		} {
			first, second := make(), make()
			wantOwn(t, first)
			wantApart(t, first, second)
			wantApart(t, first, p)
			was, want := tellFull(p), tell(second)
			spoil(reflect.ValueOf(first))
			if tellFull(p) != was || tell(second) != want || tell(make()) != want {
				t.Errorf("%s: %s: memory is shared", what, s)
			}
		}
	}
}

func heapNow() uint64 {
	runtime.GC()
	var m runtime.MemStats
	runtime.ReadMemStats(&m)
	return m.HeapAlloc
}

func TestNothingIsKept(t *testing.T) {
	p := program(t, several)
	i := sealed(t, p)
	s := encoded(t, i)
	r := asked(t, "GET /a/b 10.0.0.1:80\n\n")
	ahead := runtime.NumGoroutine()
	var now [2]uint64
	for k := range now {
		for range 20 {
			sealed(t, p)
			encoded(t, i)
			bundle.Decode(s)
			bundle.Decode(s + "\x00")
			bundle.Judge(i, r)
		}
		now[k] = heapNow()
	}
	if now[1] > now[0]+1<<18 {
		t.Errorf("%d bytes, and then %d", now[0], now[1])
	}
	if runtime.NumGoroutine() > ahead {
		t.Errorf("%d goroutines, and then %d", ahead, runtime.NumGoroutine())
	}
}

// Several at once may ask of the same things, since nothing is changed in them.
func TestCallsDoNotDisturbOneAnother(t *testing.T) {
	p := program(t, several)
	i := sealed(t, p)
	s, r := encoded(t, i), asked(t, "GET /a/b 10.0.0.1:80\n\n")
	for seed := range 6 {
		t.Run(fmt.Sprint(seed), func(t *testing.T) {
			t.Parallel()
			for range 5 {
				wantSeal(t, p, api.MaxNodes, i)
				if encoded(t, i) != s || !bundle.Right(i) {
					t.Error("another text")
				}
				j, e := bundle.Decode(s)
				if tell(j) != tell(i) || e != api.OK {
					t.Errorf("error %d", e)
				}
				wantJudge(t, i, r, api.Allow)
			}
		})
	}
}
