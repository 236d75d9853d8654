package hasp

import (
	"math/rand"
	"strings"
	"sync"
	"testing"

	"hasp/api"
)

// endsBySteps tells all places where a match ends, each by going anew from Start, as the document says it.
func endsBySteps(table api.Table, text string) []int {
	var ends []int
	for place := 0; place <= len(text); place++ {
		state := table.Start
		for _, b := range []byte(text[:place]) {
			state = table.Next[state][table.Classes[b]]
		}
		if table.Accepts[state] && (place == len(text) || !table.Back) {
			ends = append(ends, place)
		}
	}
	return ends
}

func wantEnds(t *testing.T, m *Machine, text string, first, last int) {
	t.Helper()
	yes, err := m.IsMatch(text)
	if yes != (first >= 0) || err != api.OK {
		t.Errorf("IsMatch(%.60q) = %v, %d, want %v", text, yes, err, first >= 0)
	}
	if place, err := m.ShortestEnd(text); place != first || err != api.OK {
		t.Errorf("ShortestEnd(%.60q) = %d, %d, want %d", text, place, err, first)
	}
	if place, err := m.LongestEnd(text); place != last || err != api.OK {
		t.Errorf("LongestEnd(%.60q) = %d, %d, want %d", text, place, err, last)
	}
}

func wantEndsBySteps(t *testing.T, m *Machine, table api.Table, text string) {
	t.Helper()
	first, last := -1, -1
	if ends := endsBySteps(table, text); len(ends) > 0 {
		first, last = ends[0], ends[len(ends)-1]
	}
	wantEnds(t, m, text, first, last)
}

// wantSearches: the machine finds in some texts what its table says.
func wantSearches(t *testing.T, m *Machine, table api.Table) {
	t.Helper()
	for _, text := range []string{"", "a", "b", "x", "ab", "ba", "aab", "bab", "abba", "\x00\xff", "\xff\xfe\x01", "xaxbx", strings.Repeat("ab", 30)} {
		wantEndsBySteps(t, m, table, text)
	}
}

// seekA is the table of the document's example: a match ends behind each "a".
func seekA() api.Table {
	return api.Table{Classes: classesOf(map[int]byte{'a': 1}), Accepts: []bool{false, true}, Next: [][]int{{0, 1}, {0, 1}}}
}

func TestSearchWithoutBack(t *testing.T) {
	m := mustBuild(t, seekA())
	for _, c := range []struct {
		text        string
		first, last int
	}{
		{"", -1, -1}, {"x", -1, -1}, {"a", 1, 1}, {"xa", 2, 2}, {"ax", 1, 1}, {"aXa", 1, 3}, {"aa", 1, 2},
		{"xxax", 3, 3}, {"xaxax", 2, 4}, {"A", -1, -1}, {"\xc3\xa4", -1, -1}, {"\xff\xc3a\x80", 3, 3}, {"a\x00", 1, 1}, {"\x00a", 2, 2},
	} {
		wantEnds(t, m, c.text, c.first, c.last)
	}
}

func TestSearchWithBack(t *testing.T) {
	table := seekA()
	table.Back = true
	m := mustBuild(t, table)
	for _, c := range []struct {
		text string
		end  int
	}{
		{"", -1}, {"x", -1}, {"a", 1}, {"xa", 2}, {"ax", -1}, {"aXa", 3}, {"aa", 2}, {"xaxax", -1}, {"axxxa", 5},
	} {
		wantEnds(t, m, c.text, c.end, c.end)
	}
}

func TestSearchAtPlaceNought(t *testing.T) {
	table := seekA()
	table.Start = 1
	m := mustBuild(t, table)
	wantEnds(t, m, "", 0, 0)
	wantEnds(t, m, "x", 0, 0)
	wantEnds(t, m, "xa", 0, 2)
	wantEnds(t, m, "xax", 0, 2)
	wantEnds(t, m, "a", 0, 1)
	table.Back = true
	m = mustBuild(t, table)
	wantEnds(t, m, "", 0, 0)
	wantEnds(t, m, "x", -1, -1)
	wantEnds(t, m, "xa", 2, 2)
	wantEnds(t, m, "xax", -1, -1)
}

func TestSearchEverywhereAndNowhere(t *testing.T) {
	for _, back := range []bool{false, true} {
		table := api.Table{Back: back, Classes: classesOf(nil), Accepts: []bool{false}, Next: [][]int{{0}}}
		never := mustBuild(t, table)
		table.Accepts[0] = true
		always := mustBuild(t, table)
		for _, text := range []string{"", "a", "\x00", "\xff\xff", strings.Repeat("x", 1000)} {
			wantEnds(t, never, text, -1, -1)
			first := 0
			if back {
				first = len(text)
			}
			wantEnds(t, always, text, first, len(text))
		}
	}
}

// TestSearchFrontSaysNothing: with Front and without, the same is found.
func TestSearchFrontSaysNothing(t *testing.T) {
	for _, table := range tables() {
		for range 2 {
			table.Front = !table.Front
			wantSearches(t, mustBuild(t, table), table)
		}
	}
}

// TestSearchEveryByte: each byte goes by its own class, whatever runes are.
func TestSearchEveryByte(t *testing.T) {
	for n := range 256 {
		table := wide()
		table.Accepts = []bool{false, true}
		for i := range 256 {
			table.Next[0][i], table.Next[1][i] = 0, 0
		}
		table.Next[0][n] = 1
		m := mustBuild(t, table)
		for other := range 256 {
			if text := string([]byte{byte(other)}); other == n {
				wantEnds(t, m, text, 1, 1)
			} else {
				wantEnds(t, m, text, -1, -1)
			}
		}
	}
}

func TestSearchManyStates(t *testing.T) {
	for _, states := range []int{2, 128, 129, 199, 200} {
		for start := range states {
			table := ring(states)
			table.Start = start
			m := mustBuild(t, table)
			first := (states - start) % states
			wantEnds(t, m, strings.Repeat("x", first), first, first)
			wantEnds(t, m, strings.Repeat("x", first+states-1), first, first)
			wantEnds(t, m, strings.Repeat("x", first+2*states), first, first+2*states)
			if first > 0 {
				wantEnds(t, m, strings.Repeat("x", first-1), -1, -1)
			}
		}
	}
}

func TestSearchLongText(t *testing.T) {
	m := mustBuild(t, seekA())
	blank := strings.Repeat("x", 1<<20)
	wantEnds(t, m, blank, -1, -1)
	wantEnds(t, m, blank+"a", 1<<20+1, 1<<20+1)
	wantEnds(t, m, "a"+blank, 1, 1)
	wantEnds(t, m, "a"+blank+"a"+blank, 1, 1<<20+2)
}

// randomTable makes a table of a few states and classes by a number alone.
func randomTable(r *rand.Rand) api.Table {
	states, classes := 1+r.Intn(6), []byte{0}
	most := byte(0)
	for range 255 {
		class := byte(r.Intn(min(int(most)+2, 5)))
		most = max(most, class)
		classes = append(classes, class)
	}
	table := api.Table{Front: r.Intn(2) == 0, Back: r.Intn(2) == 0, Start: r.Intn(states), Classes: string(classes)}
	for range states {
		table.Accepts = append(table.Accepts, r.Intn(4) == 0)
		var row []int
		for range int(most) + 1 {
			row = append(row, r.Intn(states))
		}
		table.Next = append(table.Next, row)
	}
	return table
}

func randomText(r *rand.Rand) string {
	text := make([]byte, r.Intn(12))
	for i := range text {
		text[i] = byte(r.Intn(256))
	}
	return string(text)
}

func TestSearchRandomTables(t *testing.T) {
	r := rand.New(rand.NewSource(6))
	for range 2000 {
		table := randomTable(r)
		m := mustBuild(t, copied(table))
		wantTable(t, m, table)
		for range 20 {
			wantEndsBySteps(t, m, table, randomText(r))
		}
	}
}

// TestMachinesSideBySide: what one machine does is not seen by another one, nor by itself later.
func TestMachinesSideBySide(t *testing.T) {
	r := rand.New(rand.NewSource(9))
	var all []api.Table
	var machines []*Machine
	for range 50 {
		table := randomTable(r)
		all = append(all, copied(table))
		machines = append(machines, mustBuild(t, table))
		machines = append(machines, mustBuild(t, table))
		all = append(all, copied(table))
	}
	for range 3 {
		for i, m := range machines {
			text := randomText(r)
			wantEndsBySteps(t, m, all[i], text)
			other := r.Intn(len(machines))
			wantEndsBySteps(t, machines[other], all[other], text)
			got, _ := machines[other].Table()
			spoil(got)
			wantTable(t, m, all[i])
			wantNoTable(t, "between others", api.Table{})
		}
	}
}

// TestOneMachineAtOnce: searches do not disturb one another.
func TestOneMachineAtOnce(t *testing.T) {
	m := mustBuild(t, three())
	var group sync.WaitGroup
	for range 8 {
		group.Go(func() {
			for range 20 {
				wantSearches(t, m, three())
				wantTable(t, m, three())
			}
		})
	}
	group.Wait()
}
