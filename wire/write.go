// Package wire: tables in bytes.
package wire

import "hasp/api"

// mark is what all of them begin with: a name, and the number of this way of writing.
const mark = "HASP\x01"

// In the byte for Front and Back.
const (
	frontBit = 1
	backBit  = 2
)

// writer puts bytes one behind the other, numbers in one of the two orders.
type writer struct {
	big bool
	out []byte
}

// Write tells a table's bytes. The kind is one that there is, and the table has a state at least.
func Write(t api.Table, kind int, big bool) string {
	w := &writer{big: big}
	w.text(mark)
	w.small(byte(kind))
	w.small(bit(t.Front)*frontBit + bit(t.Back)*backBit)
	w.small(bit(big))
	w.pair(len(t.Accepts))
	w.pair(len(t.Next[0]))
	w.pair(t.Start)
	w.text(t.Classes)
	for _, accepts := range t.Accepts {
		w.small(bit(accepts))
	}
	for _, row := range t.Next {
		w.row(row, kind)
	}
	w.number(sum(w.out), 4)
	return string(w.out)
}

func (w *writer) row(row []int, kind int) {
	if kind == api.Sparse {
		w.sparse(row)
		return
	}
	for _, next := range row {
		w.pair(next)
	}
}

func (w *writer) sparse(row []int) {
	runs := runsOf(row)
	w.pair(len(runs))
	for _, r := range runs {
		w.pair(r.classes)
		w.pair(r.next)
	}
}

func (w *writer) text(s string) { w.out = append(w.out, s...) }

func (w *writer) small(b byte) { w.out = append(w.out, b) }

// pair puts a number in two bytes: in a table none needs more.
func (w *writer) pair(n int) { w.number(uint32(n), 2) }

func (w *writer) number(n uint32, size int) {
	for i := range size {
		place := i
		if w.big {
			place = size - 1 - i
		}
		w.small(byte(n >> (8 * place)))
	}
}

func bit(b bool) byte {
	if b {
		return 1
	}
	return 0
}
