package hasp

import (
	"math"
	"reflect"
	"strings"
	"testing"

	"hasp/api"
)

// classesOf makes Classes in which some bytes have other classes than 0.
func classesOf(others map[int]byte) string {
	b := make([]byte, 256)
	for at, class := range others {
		b[at] = class
	}
	return string(b)
}

// each makes Classes in which every byte has a class of its own.
func each() string {
	b := make([]byte, 256)
	for i := range b {
		b[i] = byte(i)
	}
	return string(b)
}

// ring is a table of so many states and one class: each state leads to the next one, the last to 0; state 0 accepts.
func ring(states int) api.Table {
	t := api.Table{Classes: classesOf(nil)}
	for i := range states {
		t.Accepts = append(t.Accepts, i == 0)
		t.Next = append(t.Next, []int{(i + 1) % states})
	}
	return t
}

// three is a table of three states and three classes, new at each call.
func three() api.Table {
	return api.Table{
		Start:   1,
		Classes: classesOf(map[int]byte{'a': 1, 'b': 2, 255: 1}),
		Accepts: []bool{false, false, true},
		Next:    [][]int{{0, 1, 2}, {1, 1, 0}, {2, 0, 1}},
	}
}

// wide is a table of two states and 256 classes.
func wide() api.Table {
	t := api.Table{Classes: each(), Accepts: []bool{true, false}, Next: make([][]int, 2)}
	for i := range 256 {
		t.Next[0] = append(t.Next[0], i%2)
		t.Next[1] = append(t.Next[1], i/128)
	}
	return t
}

func mustBuild(t *testing.T, table api.Table) *Machine {
	t.Helper()
	m, err := Build(table)
	if m == nil || err != api.OK {
		t.Fatalf("Build = %v, %d", m, err)
	}
	return m
}

func wantTable(t *testing.T, m *Machine, want api.Table) {
	t.Helper()
	if got, err := m.Table(); !reflect.DeepEqual(got, want) || err != api.OK {
		t.Errorf("Table = %v, %d, want %v", got, err, want)
	}
}

func wantNoTable(t *testing.T, what string, table api.Table) {
	t.Helper()
	if m, err := Build(table); m != nil || err != api.ErrTable {
		t.Errorf("%s: Build = %v, %d, want ErrTable", what, m, err)
	}
}

func TestBuildTellsItsTable(t *testing.T) {
	for _, make := range []func() api.Table{
		three, wide,
		func() api.Table { return ring(1) },
		func() api.Table { return ring(api.MaxStates) },
	} {
		for flags := range 4 {
			table, want := make(), make()
			table.Front, table.Back = flags&1 == 1, flags&2 == 2
			want.Front, want.Back = table.Front, table.Back
			wantTable(t, mustBuild(t, table), want)
		}
	}
}

func TestBuildEveryStart(t *testing.T) {
	for _, states := range []int{1, 2, 3, api.MaxStates} {
		for start := -2; start < 2*api.MaxStates; start++ {
			table := ring(states)
			table.Start = start
			if start >= 0 && start < states {
				wantTable(t, mustBuild(t, table), table)
			} else {
				wantNoTable(t, "Start", table)
			}
		}
		for _, start := range farNumbers {
			table := ring(states)
			table.Start = start
			wantNoTable(t, "Start far off", table)
		}
	}
}

// farNumbers become states, if they are cut down to fewer bits.
var farNumbers = []int{256, -256, 257, 1 << 16, 1 << 31, 1 << 32, -1 << 32, 1 << 62, math.MaxInt, math.MinInt, math.MinInt + 1}

// TestBuildTakesWhatIsNotSmallest: the document asks no more of a table than that it is one.
func TestBuildTakesWhatIsNotSmallest(t *testing.T) {
	same := api.Table{Classes: each(), Accepts: []bool{true, true}, Next: [][]int{make([]int, 256), make([]int, 256)}}
	wantTable(t, mustBuild(t, same), same)
	unmet := api.Table{Start: 2, Classes: classesOf(nil), Accepts: []bool{true, false, false}, Next: [][]int{{1}, {0}, {2}}}
	wantTable(t, mustBuild(t, unmet), unmet)
	never := api.Table{Front: true, Back: true, Classes: classesOf(nil), Accepts: []bool{false}, Next: [][]int{{0}}}
	wantTable(t, mustBuild(t, never), never)
}

func TestBuildHowManyStates(t *testing.T) {
	for _, states := range []int{0, 201, 202, 255, 256, 257, 456, 512, 1000} {
		wantNoTable(t, "states", ring(states))
	}
	for states := 1; states <= api.MaxStates; states++ {
		wantTable(t, mustBuild(t, ring(states)), ring(states))
	}
	wantNoTable(t, "nothing", api.Table{})
	wantNoTable(t, "Classes alone", api.Table{Classes: classesOf(nil)})
	wantNoTable(t, "lists without states", api.Table{Classes: classesOf(nil), Accepts: []bool{}, Next: [][]int{}})
}

// TestBuildListsOfUnlikeLength: Accepts and Next, each longer and shorter than the other.
func TestBuildListsOfUnlikeLength(t *testing.T) {
	for _, states := range []int{1, 2, 3, 199, 200} {
		for _, more := range []int{-states, -1, 1, 2, 256} {
			accepts, next := ring(states), ring(states)
			accepts.Accepts = ring(states + more).Accepts
			wantNoTable(t, "Accepts", accepts)
			// Its rows stay rows of states that there are.
			next.Next = make([][]int, states+more)
			for i := range next.Next {
				next.Next[i] = []int{0}
			}
			wantNoTable(t, "Next", next)
		}
	}
	table := three()
	table.Accepts = nil
	wantNoTable(t, "Accepts nil", table)
	table = three()
	table.Next = nil
	wantNoTable(t, "Next nil", table)
}

func TestBuildClassesLength(t *testing.T) {
	for _, length := range []int{0, 1, 2, 254, 255, 257, 258, 511, 512, 65536} {
		table := ring(1)
		table.Classes = strings.Repeat("\x00", length)
		wantNoTable(t, "length of Classes", table)
	}
	table := wide()
	table.Classes = table.Classes[:255]
	wantNoTable(t, "a byte too few", table)
	table = wide()
	table.Classes += "\x00"
	wantNoTable(t, "a byte too many", table)
}

// tableOf makes a table of one state with so many classes.
func tableOf(classes string, many int) api.Table {
	return api.Table{Classes: classes, Accepts: []bool{false}, Next: [][]int{make([]int, many)}}
}

// wantClasses: of all lengths that a row may have, only the number of classes makes a table, and none does, if many is 0.
func wantClasses(t *testing.T, classes string, many int) {
	t.Helper()
	for length := range 260 {
		if table := tableOf(classes, length); length == many && many > 0 {
			wantTable(t, mustBuild(t, table), table)
		} else {
			wantNoTable(t, "classes", table)
		}
	}
}

func TestBuildClassNumbers(t *testing.T) {
	wantClasses(t, classesOf(nil), 1)
	wantClasses(t, each(), 256)
	for _, at := range []int{1, 2, 127, 128, 254, 255} {
		wantClasses(t, classesOf(map[int]byte{at: 1}), 2)
		for _, class := range []byte{2, 3, 128, 254, 255} {
			wantClasses(t, classesOf(map[int]byte{at: class}), 0)
		}
	}
	for _, class := range []byte{1, 2, 255} {
		wantClasses(t, classesOf(map[int]byte{0: class}), 0)
		wantClasses(t, strings.Repeat(string([]byte{class}), 256), 0)
	}
	wantClasses(t, classesOf(map[int]byte{0: 1, 1: 1}), 0)
}

// TestBuildClassesRise: one above all of lesser bytes, whatever the byte ahead has.
func TestBuildClassesRise(t *testing.T) {
	wantClasses(t, classesOf(map[int]byte{1: 1, 3: 2}), 3)
	wantClasses(t, classesOf(map[int]byte{1: 1, 2: 2, 254: 1, 255: 3}), 4)
	wantClasses(t, classesOf(map[int]byte{1: 1, 2: 2, 3: 1, 4: 2}), 3)
	wantClasses(t, classesOf(map[int]byte{1: 1, 3: 3}), 0)
	wantClasses(t, classesOf(map[int]byte{1: 1, 2: 3, 3: 2}), 0)
	wantClasses(t, classesOf(map[int]byte{1: 2, 2: 1}), 0)
	wantClasses(t, classesOf(map[int]byte{1: 1, 2: 2, 255: 4}), 0)
	fewer := []byte(each())
	fewer[255] = 254
	wantClasses(t, string(fewer), 255)
	fewer[255] = 0
	wantClasses(t, string(fewer), 255)
	fewer[254], fewer[255] = 253, 255
	wantClasses(t, string(fewer), 0)
	fewer[255] = 254
	wantClasses(t, string(fewer), 255)
	fewer[0], fewer[1] = 1, 0
	wantClasses(t, string(fewer), 0)
}

func TestBuildRowLengths(t *testing.T) {
	for at := range 3 {
		for _, row := range [][]int{nil, {}, {0}, {0, 1}, {0, 1, 2, 0}, make([]int, 256), make([]int, 259)} {
			table := three()
			table.Next[at] = row
			wantNoTable(t, "length of a row", table)
		}
	}
	for at := range 2 {
		for _, length := range []int{0, 1, 255, 257, 512} {
			table := wide()
			table.Next[at] = make([]int, length)
			wantNoTable(t, "length of a wide row", table)
		}
	}
	table := ring(200)
	table.Next[199] = nil
	wantNoTable(t, "the last row nil", table)
	// As many states in all, but not in each row.
	table = three()
	table.Next[0], table.Next[2] = []int{0, 1}, []int{2, 0, 1, 0}
	wantNoTable(t, "rows of unlike length", table)
}

func TestBuildNextStates(t *testing.T) {
	for at := range 3 {
		for class := range 3 {
			for next := -2; next < 5; next++ {
				table := three()
				table.Next[at][class] = next
				if next >= 0 && next < 3 {
					wantTable(t, mustBuild(t, table), table)
				} else {
					wantNoTable(t, "a next state", table)
				}
			}
			for _, next := range append(farNumbers, 199, 200, 255) {
				table := three()
				table.Next[at][class] = next
				wantNoTable(t, "a next state far off", table)
			}
		}
	}
	for _, next := range []int{-1, 200, 201, 255, 256} {
		table := ring(200)
		table.Next[199][0] = next
		wantNoTable(t, "the last next state", table)
		table = wide()
		table.Next[1][255] = next
		wantNoTable(t, "the next state of the last class", table)
	}
}

func TestMachineNil(t *testing.T) {
	var none *Machine
	if table, err := none.Table(); !reflect.DeepEqual(table, api.Table{}) || err != api.ErrNil {
		t.Errorf("Table = %v, %d", table, err)
	}
	for _, text := range []string{"", "a", "\xff\x00"} {
		if yes, err := none.IsMatch(text); yes || err != api.ErrNil {
			t.Errorf("IsMatch(%q) = %v, %d", text, yes, err)
		}
		if place, err := none.ShortestEnd(text); place != 0 || err != api.ErrNil {
			t.Errorf("ShortestEnd(%q) = %d, %d", text, place, err)
		}
		if place, err := none.LongestEnd(text); place != 0 || err != api.ErrNil {
			t.Errorf("LongestEnd(%q) = %d, %d", text, place, err)
		}
	}
	for _, kind := range []int{api.Dense, api.Sparse, -1, 2, math.MinInt} {
		for _, big := range []bool{false, true} {
			if b, err := none.Encode(kind, big); b != "" || err != api.ErrNil {
				t.Errorf("Encode(%d, %v) = %q, %d", kind, big, b, err)
			}
		}
	}
}
