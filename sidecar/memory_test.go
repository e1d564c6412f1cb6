package sidecar_test

import (
	"fmt"
	"math/rand"
	"runtime"
	"strings"
	"sync"
	"testing"
	"unsafe"

	"lychgate/api"
	"lychgate/sidecar"
)

// overwritten runs a call with a text whose bytes are written over behind it: nothing of it may be kept, and it may not be written into.
func overwritten(t *testing.T, s string, call func(s string)) {
	t.Helper()
	b := []byte(s)
	if len(b) == 0 {
		b = make([]byte, 1)[:0]
	}
	call(unsafe.String(unsafe.SliceData(b), len(b)))
	if string(b) != s {
		t.Error("what was handed in is written into")
	}
	for k := range b {
		b[k] = 'Z'
	}
}

// What is handed in is not kept: a sidecar does not care what becomes of the bundle's bytes, nor of a request's.
func TestWhatIsHandedInIsNotKept(t *testing.T) {
	l := accepted(t, `allow a when method in {GET, PUT} and path ~ "/a/**"; allow b when header "k" ~ "x*"; deny c when has "lll";`)
	b, _ := roomFor(t, l, nil)
	s := sidecar.New()
	overwritten(t, b, func(b string) { wantLoad(t, s, b, 1) })
	overwritten(t, b[1:], func(b string) { wantNoBundle(t, s, "cut", b) })
	r := rand.New(rand.NewSource(1))
	for range 100 {
		raw := pick(r, randomText(r), "GET /a/b 1.2.3.4:80\n\n", "A / 1.2.3.4:80\nk:xyz\n\n", "A / 1.2.3.4:80\nK:xyz\nlLl:\n\n")
		overwritten(t, raw, func(raw string) { wantSays(t, s, &l, raw) })
	}
}

func heapNow() uint64 {
	runtime.GC()
	var m runtime.MemStats
	runtime.ReadMemStats(&m)
	return m.HeapAlloc
}

// What a sidecar keeps is one image: not what it had ahead of that, nor what it refused or was asked.
func TestOneImageIsKept(t *testing.T) {
	l := []string{bundleOf(t, several), bundleOf(t, ""), bundleOf(t, `allow a when path ~ "/a*b*c*d*e";`)}
	s := sidecar.New()
	path := "GET /" + strings.Repeat("a", 1<<12) + " 1.2.3.4:80\n\n"
	ahead := runtime.NumGoroutine()
	var now [2]uint64
	for k := range now {
		for n := range 90 {
			s.Load(l[n%3])
			s.Load(l[n%3] + strings.Repeat("\x00", 1<<12))
			s.Eval(path)
			s.Eval(path + "x")
		}
		now[k] = heapNow()
	}
	wantVersion(t, s, 180)
	if now[1] > now[0]+1<<18 {
		t.Errorf("%d bytes, and then %d", now[0], now[1])
	}
	if runtime.NumGoroutine() > ahead {
		t.Errorf("%d goroutines, and then %d", ahead, runtime.NumGoroutine())
	}
}

// Several ask and load at once: each answer is one of a bundle that was there, each bundle that was taken counts.
func TestCallsAtOnce(t *testing.T) {
	one, two := bundleOf(t, "allow a when port in {80} or port in {81};"), bundleOf(t, "allow a when not port in {80};")
	s := loaded(t, one)
	var all sync.WaitGroup
	for k := range 6 {
		all.Add(1)
		go func() {
			defer all.Done()
			for n := range 20 {
				if e := s.Load([]string{one, two}[(n+k)%2]); e != api.OK {
					t.Errorf("Load: error %d", e)
				}
				if e := s.Load("x"); e != api.ErrBundleForm {
					t.Errorf("Load of none: error %d", e)
				}
				if v, e := s.Eval("GET / 1.2.3.4:80\n\n"); v != api.Allow && v != api.Deny || e != api.OK {
					t.Errorf("%d, error %d", v, e)
				}
				if v, e := s.Eval("GET / 1.2.3.4:81\n\n"); v != api.Allow || e != api.OK { // both say so
					t.Errorf("%d, error %d", v, e)
				}
				if v, e := s.Eval("GET"); v != 0 || e != api.ErrRequestForm {
					t.Errorf("%d, error %d", v, e)
				}
				if v := s.Version(); v < n+2 || v > 1+6*20 {
					t.Errorf("Version: %d", v)
				}
			}
		}()
	}
	all.Wait()
	wantVersion(t, s, 1+6*20)
	wantLoad(t, s, two, 2+6*20)
	wantEval(t, s, asked, api.Deny)
}

// Sidecars know nothing of one another, also at once.
func TestSidecarsDoNotDisturbOneAnother(t *testing.T) {
	shared := bundleOf(t, several)
	for k := range 6 {
		t.Run(fmt.Sprint(k), func(t *testing.T) {
			t.Parallel()
			r := rand.New(rand.NewSource(int64(k)))
			l := accepted(t, fmt.Sprintf("allow a when port in {%d};", 78+k))
			b, _ := roomFor(t, l, nil)
			s := loaded(t, shared, b)
			for n := range 40 {
				wantSays(t, s, &l, randomText(r))
				wantVersion(t, s, 2+n)
				wantLoad(t, s, b, 3+n)
			}
		})
	}
}
