package codec

import "lychgate/api"

// Writer lays numbers and texts down as bytes.
type Writer struct {
	bytes []byte
	most  int
	wrong error
}

// NewWriter is one for at most so many bytes.
func NewWriter(most int) *Writer {
	return &Writer{most: max(most, 0)}
}

// Num lays a number down, by so many bytes.
func (w *Writer) Num(size, n int) {
	w.put(numberBytes(n, size))
}

// Text lays a text down, with its length by two bytes ahead.
func (w *Writer) Text(s string) {
	w.put(textBytes(s))
}

// Raw lays bytes down as they are.
func (w *Writer) Raw(s string) {
	w.put(s, nil)
}

// Done is what was laid down, or the first error.
func (w *Writer) Done() (string, api.Errno) {
	if w.wrong != nil {
		return "", codeOf(w.wrong)
	}
	return string(w.bytes), api.OK
}

// put asks for room last, since what is wrong in itself goes ahead of it.
func (w *Writer) put(s string, err error) {
	if w.wrong != nil {
		return
	}
	// The room is never below 0, so this way round nothing overflows.
	if room := w.most - len(w.bytes); err == nil && len(s) > room {
		err = fault{api.ErrCodecLong}
	}
	if err != nil {
		// Nothing that was laid down will be told any more.
		w.wrong, w.bytes = err, nil
		return
	}
	w.bytes = append(w.bytes, s...)
}

func textBytes(s string) (string, error) {
	if len(s) > maxText {
		return "", fault{api.ErrCodecLong}
	}
	head, err := numberBytes(uint16(len(s)), textHead)
	return head + s, err
}
