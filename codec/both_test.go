package codec_test

import (
	"math/rand"
	"testing"

	"lychgate/api"
	"lychgate/codec"
)

// step is a call that a Writer and a Reader both have.
type step struct {
	kind, size, n int // size: of a number, most of a text, n of bytes
	s             string
}

const (
	stepNum = iota
	stepText
	stepRaw
	stepKinds
)

func randomStep(r *rand.Rand) step {
	x := step{kind: r.Intn(stepKinds)}
	if x.kind == stepNum {
		x.size = 1 + r.Intn(8)
		x.n = int(r.Uint64() >> 1 >> (8 * (8 - x.size)))
		if x.size < 8 {
			x.n = int(r.Uint64() >> (8 * (8 - x.size)))
		}
		return x
	}
	x.s = randomText(r, r.Intn(300))
	x.size = len(x.s)
	if x.kind == stepText {
		x.size += r.Intn(3)
	}
	return x
}

func (x step) write(w *codec.Writer) {
	switch x.kind {
	case stepNum:
		w.Num(x.size, x.n)
	case stepText:
		w.Text(x.s)
	default:
		w.Raw(x.s)
	}
}

// read is the step with what a Reader gives.
func (x step) read(r *codec.Reader) step {
	switch x.n, x.s = 0, ""; x.kind {
	case stepNum:
		x.n = r.Num(x.size)
	case stepText:
		x.s = r.Text(x.size)
	default:
		x.s = r.Raw(x.size)
	}
	return x
}

// C6: what a Writer laid down, a Reader takes up.
func TestWrittenIsRead(t *testing.T) {
	rnd := rand.New(rand.NewSource(3))
	for range 500 {
		w := codec.NewWriter(1 << 20)
		steps := make([]step, rnd.Intn(20))
		for i := range steps {
			steps[i] = randomStep(rnd)
			steps[i].write(w)
		}
		s, e := w.Done()
		if e != api.OK {
			t.Fatalf("%v: %d", steps, e)
		}
		r := codec.NewReader(s)
		for i, x := range steps {
			if y := x.read(r); y != x {
				t.Fatalf("step %d: %v is read as %v", i, x, y)
			}
		}
		if r.Done() != api.OK {
			t.Fatalf("%v: %d", steps, r.Done())
		}
	}
}

// C6: what a Reader took up of any bytes, a Writer lays down as just these.
func TestReadIsWritten(t *testing.T) {
	rnd := rand.New(rand.NewSource(4))
	right := 0
	for range 20000 {
		b := []byte(randomText(rnd, rnd.Intn(40)))
		for i := range b {
			if rnd.Intn(2) == 0 {
				b[i] = byte(rnd.Intn(4))
			}
		}
		r, w := codec.NewReader(string(b)), codec.NewWriter(len(b))
		for range rnd.Intn(8) {
			left := r.Left()
			x := step{kind: rnd.Intn(stepKinds), size: 1 + rnd.Intn(8)}.read(r)
			if e := r.Done(); e != api.OK && e != api.ErrCodecMore {
				if x.n != 0 || x.s != "" || r.Left() != 0 {
					t.Fatalf("%q: %d, and %v", b, e, x)
				}
				break
			}
			x.write(w)
			s, e := w.Done()
			taken := string(b[:len(b)-r.Left()])
			if e != api.OK || s != taken || r.Left() > left {
				t.Fatalf("%q: took %q, laid down %q, %d", b, taken, s, e)
			}
			right++
		}
	}
	if right < 1000 {
		t.Errorf("only %d steps were right: the test says little", right)
	}
}
