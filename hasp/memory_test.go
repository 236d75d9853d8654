package hasp

import (
	"reflect"
	"strings"
	"testing"
	"unsafe"

	"hasp/api"
)

// copied is a table like another one that shares nothing with it.
func copied(table api.Table) api.Table {
	table.Classes = strings.Clone(table.Classes)
	table.Accepts = append([]bool(nil), table.Accepts...)
	rows := table.Next
	table.Next = nil
	for _, row := range rows {
		table.Next = append(table.Next, append([]int(nil), row...))
	}
	return table
}

// spoil changes all that a table's lists hold, their spare room too.
func spoil(table api.Table) {
	for _, row := range table.Next {
		row = row[:cap(row)]
		for i := range row {
			row[i] = -7
		}
	}
	accepts := table.Accepts[:cap(table.Accepts)]
	for i := range accepts {
		accepts[i] = !accepts[i]
	}
	clear(table.Next[:cap(table.Next)])
}

// grow makes each of a table's lists longer, into its spare room as long as there is some. The table itself goes on with the lists it had.
func grow(table api.Table) {
	for _, row := range table.Next {
		for range max(1, cap(row)-len(row)) {
			row = append(row, -9)
		}
	}
	for range max(1, cap(table.Accepts)-len(table.Accepts)) {
		table.Accepts = append(table.Accepts, true)
	}
	for range max(1, cap(table.Next)-len(table.Next)) {
		table.Next = append(table.Next, []int{-9})
	}
}

// roomy makes a table like another one, its lists laid one behind the other in one piece of memory, each with all that follows as its spare room.
func roomy(table api.Table) (api.Table, []bool, []int) {
	accepts := append(append([]bool(nil), table.Accepts...), true, false, true)
	var all []int
	for _, row := range table.Next {
		all = append(all, row...)
	}
	all = append(all, 77, 78, 79)
	at := 0
	rows := make([][]int, 0, len(table.Next)+2)
	for _, row := range table.Next {
		rows = append(rows, all[at:at+len(row)])
		at += len(row)
	}
	table.Accepts, table.Next = accepts[:len(table.Accepts)], rows
	return table, accepts, all
}

func tables() []api.Table {
	back := three()
	back.Front, back.Back = true, true
	return []api.Table{three(), back, wide(), ring(1), ring(2), ring(17), ring(200)}
}

func TestTableToldTwice(t *testing.T) {
	for _, want := range tables() {
		m := mustBuild(t, copied(want))
		for range 3 {
			got, err := m.Table()
			if !reflect.DeepEqual(got, want) || err != api.OK {
				t.Fatalf("Table = %v, %d, want %v", got, err, want)
			}
			grow(got)
			wantTable(t, m, want)
			spoil(got)
			wantTable(t, m, want)
			wantSearches(t, m, want)
		}
	}
}

func TestTableAnswersShareNothing(t *testing.T) {
	for _, want := range tables() {
		m := mustBuild(t, copied(want))
		one, _ := m.Table()
		two, _ := m.Table()
		spoil(one)
		if !reflect.DeepEqual(two, want) {
			t.Fatalf("two answers share a list: %v", two)
		}
		three, _ := m.Table()
		grow(two)
		spoil(two)
		if !reflect.DeepEqual(three, want) {
			t.Fatalf("two answers share spare room: %v", three)
		}
	}
}

// TestTableListsShareNothing: no list of an answer reaches into another one, with its spare room.
func TestTableListsShareNothing(t *testing.T) {
	for _, want := range tables() {
		shared := copied(want)
		for i := range shared.Next {
			if reflect.DeepEqual(shared.Next[i], shared.Next[0]) {
				shared.Next[i] = shared.Next[0]
			}
		}
		got, _ := mustBuild(t, shared).Table()
		for i, row := range got.Next {
			row = row[:cap(row)]
			for j := range row {
				row[j] = i
			}
		}
		for i, row := range got.Next {
			for _, n := range row[:cap(row)] {
				if n != i {
					t.Fatalf("the rows %d and %d share memory", i, n)
				}
			}
		}
		if len(got.Next) != len(want.Next) || !reflect.DeepEqual(got.Accepts, want.Accepts) {
			t.Fatalf("a row shares memory with another list")
		}
	}
}

func TestBuildKeepsNothing(t *testing.T) {
	for _, want := range tables() {
		table := copied(want)
		m := mustBuild(t, table)
		table.Start, table.Front, table.Back = -1, !table.Front, !table.Back
		spoil(table)
		wantTable(t, m, want)
		wantSearches(t, m, want)
		inOne, accepts, all := roomy(want)
		m = mustBuild(t, inOne)
		grow(inOne)
		for i := range all {
			all[i] = 1 << 40
		}
		for i := range accepts {
			accepts[i] = !accepts[i]
		}
		wantTable(t, m, want)
		wantSearches(t, m, want)
	}
}

// TestBuildKeepsNoText: the bytes of Classes that are handed in may be let go.
func TestBuildKeepsNoText(t *testing.T) {
	bytes := []byte(three().Classes)
	table := three()
	table.Classes = unsafe.String(&bytes[0], len(bytes))
	m := mustBuild(t, table)
	first, _ := m.Table()
	clear(bytes)
	wantTable(t, m, three())
	wantSearches(t, m, three())
	if first.Classes != three().Classes {
		t.Errorf("Classes were told from what was handed in")
	}
}

func TestNothingHandedInChanges(t *testing.T) {
	for _, want := range tables() {
		inOne, accepts, all := roomy(want)
		acceptsBefore, allBefore := append([]bool(nil), accepts...), append([]int(nil), all...)
		m := mustBuild(t, inOne)
		wantSearches(t, m, want)
		got, _ := m.Table()
		grow(got)
		spoil(got)
		if !reflect.DeepEqual(inOne, want) || !reflect.DeepEqual(accepts, acceptsBefore) || !reflect.DeepEqual(all, allBefore) {
			t.Fatalf("what was handed in has changed: %v", inOne)
		}
		if spare := inOne.Next[:cap(inOne.Next)]; spare[len(spare)-1] != nil {
			t.Fatalf("the spare room of what was handed in has changed")
		}
	}
}

func TestRefusedTablesDoNotChange(t *testing.T) {
	for _, spoilt := range []func(table *api.Table){
		func(table *api.Table) { table.Start = 3 },
		func(table *api.Table) { table.Classes = "" },
		func(table *api.Table) { table.Accepts = table.Accepts[:2] },
		func(table *api.Table) { table.Next[2] = table.Next[2][:2] },
		func(table *api.Table) { table.Next[2][2] = 3 },
	} {
		table, want := three(), three()
		spoilt(&table)
		spoilt(&want)
		wantNoTable(t, "spoilt", table)
		if !reflect.DeepEqual(table, want) {
			t.Errorf("a table that was refused has changed: %v", table)
		}
		mended := three()
		wantTable(t, mustBuild(t, mended), three())
	}
}
