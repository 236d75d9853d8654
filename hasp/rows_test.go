package hasp

import (
	"runtime"
	"strings"
	"testing"

	"hasp/api"
)

// firstRow is the bytes of a table of two states and four classes, with these in place of its first row.
func firstRow(f form, row string) string {
	body := f.body(four())
	first := f.row(four().Next[0])
	at := atAccepts + 2
	return f.sealed(body[:at] + row + body[at+len(first):])
}

// lastRow is the same with the last row.
func lastRow(f form, row string) string {
	body := f.body(four())
	last := f.row(four().Next[1])
	return f.sealed(strings.TrimSuffix(body, last) + row)
}

func four() api.Table {
	return api.Table{
		Classes: classesOf(map[int]byte{1: 1, 2: 2, 3: 3}),
		Accepts: []bool{true, false},
		Next:    [][]int{{0, 0, 1, 1}, {1, 1, 1, 0}},
	}
}

// wantRow: the row makes a table in the first and in the last place.
func wantRow(t *testing.T, f form, numbers []int, row []int) {
	t.Helper()
	table := four()
	table.Next[0] = row
	wantTable(t, mustLoad(t, firstRow(f, f.pairs(numbers...))), table)
	table = four()
	table.Next[1] = row
	wantTable(t, mustLoad(t, lastRow(f, f.pairs(numbers...))), table)
}

func wantNoRow(t *testing.T, f form, what string, numbers ...int) {
	t.Helper()
	wantNoBytes(t, what+", in the first row", firstRow(f, f.pairs(numbers...)))
	wantNoBytes(t, what+", in the last row", lastRow(f, f.pairs(numbers...)))
}

func TestLoadDenseRows(t *testing.T) {
	for _, f := range forms[:2] {
		for n := range 16 {
			row := []int{n & 1, n >> 1 & 1, n >> 2 & 1, n >> 3}
			wantRow(t, f, row, row)
		}
		for at := range 4 {
			for _, next := range []int{2, 3, 199, 200, 255, 256, 257, 512, 0x7fff, 0x8000, 0xff00, 0xffff} {
				row := []int{0, 0, 1, 1}
				row[at] = next
				wantNoRow(t, f, "a next state", row...)
			}
		}
		wantNoRow(t, f, "a row of none")
		wantNoRow(t, f, "a row too short", 0, 0, 1)
		wantNoRow(t, f, "a row too long", 0, 0, 1, 1, 0)
		wantNoRow(t, f, "runs", 2, 2, 0, 2, 1)
	}
}

func TestLoadSparseRows(t *testing.T) {
	for _, f := range forms[2:] {
		wantRow(t, f, []int{1, 4, 0}, []int{0, 0, 0, 0})
		wantRow(t, f, []int{1, 4, 1}, []int{1, 1, 1, 1})
		wantRow(t, f, []int{2, 1, 0, 3, 1}, []int{0, 1, 1, 1})
		wantRow(t, f, []int{3, 1, 1, 2, 0, 1, 1}, []int{1, 0, 0, 1})
		wantRow(t, f, []int{4, 1, 0, 1, 1, 1, 0, 1, 1}, []int{0, 1, 0, 1})
		wantNoRow(t, f, "a dense row", 0, 0, 1, 1)
	}
}

func TestLoadRunsEmpty(t *testing.T) {
	for _, f := range forms[2:] {
		wantNoRow(t, f, "nothing at all")
		wantNoRow(t, f, "no runs", 0)
		wantNoRow(t, f, "no runs, but bytes for some", 0, 2, 0, 2, 1)
		for next := range 3 {
			wantNoRow(t, f, "an empty run alone", 1, 0, next)
			wantNoRow(t, f, "an empty run ahead", 2, 0, next, 4, 1)
			wantNoRow(t, f, "an empty run behind", 2, 4, 1, 0, next)
			wantNoRow(t, f, "an empty run between", 3, 2, 0, 0, next, 2, 1)
			wantNoRow(t, f, "an empty run between two that are the same", 3, 2, 0, 0, next, 2, 0)
		}
	}
}

func TestLoadRunsTooMany(t *testing.T) {
	for _, f := range forms[2:] {
		wantNoRow(t, f, "a run behind a full row", 2, 4, 0, 1, 1)
		wantNoRow(t, f, "five runs", 5, 1, 0, 1, 1, 1, 0, 1, 1, 1, 0)
		wantNoRow(t, f, "more runs than are there", 3, 2, 0, 2, 1)
		wantNoRow(t, f, "more runs than can be", 0xffff, 2, 0, 2, 1)
		wantNoRow(t, f, "fewer runs than are there", 1, 2, 0, 2, 1)
		wantNoRow(t, f, "runs of too few classes", 2, 2, 0, 1, 1)
		wantNoRow(t, f, "a run of too few classes", 1, 3, 0)
		wantNoRow(t, f, "runs of too many classes", 2, 2, 0, 3, 1)
		for _, long := range []int{5, 8, 255, 256, 260, 0x0400, 0x8000, 0xfffc, 0xffff} {
			wantNoRow(t, f, "a run of too many classes", 1, long, 0)
			wantNoRow(t, f, "a last run of too many classes", 2, 2, 0, long, 1)
			wantNoRow(t, f, "a first run of too many classes", 2, long, 0, 2, 1)
		}
		// The numbers of classes are four, but for what goes beyond two bytes.
		wantNoRow(t, f, "runs that go round", 2, 0xffff, 0, 5, 1)
	}
}

func TestLoadRunsTheSame(t *testing.T) {
	for _, f := range forms[2:] {
		wantNoRow(t, f, "two the same", 2, 2, 0, 2, 0)
		wantNoRow(t, f, "two the same of unlike length", 2, 1, 1, 3, 1)
		wantNoRow(t, f, "two the same ahead", 3, 1, 0, 1, 0, 2, 1)
		wantNoRow(t, f, "two the same behind", 3, 2, 1, 1, 0, 1, 0)
		wantNoRow(t, f, "all the same", 4, 1, 0, 1, 0, 1, 0, 1, 0)
	}
}

func TestLoadRunsToNoState(t *testing.T) {
	for _, f := range forms[2:] {
		for _, next := range []int{2, 3, 199, 200, 255, 256, 257, 0x8000, 0xff00, 0xffff} {
			wantNoRow(t, f, "a next state", 1, 4, next)
			wantNoRow(t, f, "the first next state", 2, 2, next, 2, 0)
			wantNoRow(t, f, "the last next state", 2, 2, 0, 2, next)
		}
	}
}

// TestLoadRunsAcrossRows: each row has its own runs, though together they would be of as many classes.
func TestLoadRunsAcrossRows(t *testing.T) {
	for _, f := range forms[2:] {
		head := f.body(four())[:atAccepts+2]
		wantTable(t, mustLoad(t, f.sealed(head+f.pairs(1, 4, 0, 1, 4, 1))), api.Table{
			Classes: four().Classes, Accepts: four().Accepts, Next: [][]int{{0, 0, 0, 0}, {1, 1, 1, 1}},
		})
		wantNoBytes(t, "too few, then too many", f.sealed(head+f.pairs(1, 3, 0, 1, 5, 1)))
		wantNoBytes(t, "too many, then too few", f.sealed(head+f.pairs(1, 5, 0, 1, 3, 1)))
		wantNoBytes(t, "all in the first row", f.sealed(head+f.pairs(2, 4, 0, 4, 1)))
		wantNoBytes(t, "all in the last row", f.sealed(head+f.pairs(0, 2, 4, 0, 4, 1)))
		wantNoBytes(t, "a row too many", f.sealed(head+f.pairs(1, 4, 0, 1, 4, 1, 1, 4, 0)))
	}
}

// TestLoadClaimsMuch: few bytes that speak of many states, classes or runs are refused, and don't take much memory.
func TestLoadClaimsMuch(t *testing.T) {
	for _, f := range forms {
		head := f.body(four())[:atStates]
		for _, states := range []int{1, 200, 201, 0xffff} {
			for _, many := range []int{1, 4, 256, 0xffff} {
				body := head + f.pairs(states, many, 0) + each() + strings.Repeat("\x01", min(states, 300))
				for _, row := range []int{0, 1, 0xffff} {
					for _, rows := range []int{0, 1, 200, 2000} {
						b := f.sealed(body + strings.Repeat(f.pairs(row, 0xffff, 0), rows))
						before := allocated()
						wantNoBytes(t, "much", b)
						if taken := allocated() - before; taken > 1<<24 {
							t.Errorf("Load of %d bytes took %d bytes of memory", len(b), taken)
						}
					}
				}
			}
		}
	}
}

// allocated tells how much memory was asked for so far.
func allocated() uint64 {
	var stats runtime.MemStats
	runtime.ReadMemStats(&stats)
	return stats.TotalAlloc
}
