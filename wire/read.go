package wire

import "hasp/api"

// maxClasses: each byte has a class of its own.
const maxClasses = 256

// reader takes bytes from the front. Behind the last one all are 0: bytes that end too soon are found out later, by what would be written in their place.
type reader struct {
	big  bool
	rest string
}

// Read tells the table that is written in b, if it is written just so. Whether it is a table is not asked here.
func Read(b string) (api.Table, bool) {
	r := &reader{rest: b}
	r.text(len(mark))
	kind := int(r.small())
	ends := r.small()
	r.big = r.small() == 1
	states, classes, start := r.pair(), r.pair(), r.pair()
	if kind > api.Sparse || states < 1 || states > api.MaxStates || classes > maxClasses {
		return api.Table{}, false
	}
	t := api.Table{Front: ends&frontBit != 0, Back: ends&backBit != 0, Start: start, Classes: r.text(256)}
	for range states {
		t.Accepts = append(t.Accepts, r.small() == 1)
	}
	for range states {
		t.Next = append(t.Next, r.row(kind, classes))
	}
	// There is one way alone to write a table: all that is odd in b, the sum too, comes out otherwise when it is written anew.
	if Write(t, kind, r.big) != b {
		return api.Table{}, false
	}
	return t, true
}

func (r *reader) row(kind, classes int) []int {
	if kind == api.Sparse {
		return r.sparse(classes)
	}
	row := make([]int, classes)
	for i := range row {
		row[i] = r.pair()
	}
	return row
}

func (r *reader) sparse(classes int) []int {
	var row []int
	for range r.pair() {
		long, next := r.pair(), r.pair()
		// No more than the row has room for, whatever long is: else few bytes could ask for much memory.
		for range min(long, classes-len(row)) {
			row = append(row, next)
		}
	}
	return row
}

// text takes so many bytes, or as many as there are.
func (r *reader) text(size int) string {
	size = min(size, len(r.rest))
	taken := r.rest[:size]
	r.rest = r.rest[size:]
	return taken
}

func (r *reader) small() byte {
	taken := r.text(1)
	if taken == "" {
		return 0
	}
	return taken[0]
}

func (r *reader) pair() int {
	first, second := int(r.small()), int(r.small())
	if r.big {
		first, second = second, first
	}
	return first + second<<8
}
