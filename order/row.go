package order

import "slices"

// A run of classes leads to one and the same: those from the end of the run ahead of it on (from 0 on, if it is the first) to one less than its own end. Numbers of 32 bits are enough (see lift), and rows may be many.
type run struct {
	end, to int32
}

// join puts a run behind others. Neighbours that lead to the same are one run: so rows say the same just if they are the same.
func join(row []run, end, to int32) []run {
	if last := len(row) - 1; last >= 0 && row[last].to == to {
		row[last].end = end
		return row
	}
	return append(row, run{end, to})
}

// table has rows of one level, each once.
type table struct {
	rows   [][]run
	places map[string]int32 // by the rows' keys
	key    []byte           // room for one
}

// newTable has these rows, that are unlike.
func newTable(rows ...[]run) *table {
	t := &table{places: map[string]int32{}}
	for _, row := range rows {
		t.place(row)
	}
	return t
}

// place is where a row stands. The row itself is not kept.
func (t *table) place(row []run) int32 {
	t.key = appendKey(t.key[:0], row)
	if at, is := t.places[string(t.key)]; is {
		return at
	}
	at := int32(len(t.rows))
	t.places[string(t.key)] = at
	t.rows = append(t.rows, slices.Clone(row))
	return at
}

// appendKey appends what is unlike for each row of a level. A byte is enough for an end: they are 1 to MaxClasses.
func appendKey(out []byte, row []run) []byte {
	for _, r := range row {
		out = append(out, byte(r.end-1), byte(r.to>>24), byte(r.to>>16), byte(r.to>>8), byte(r.to))
	}
	return out
}
