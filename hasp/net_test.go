package hasp

import (
	"reflect"
	"testing"

	"hasp/api"
)

// net is a pattern's expansion as knots, with free steps between them and a spot for each step that reads a byte.
type net struct {
	free  [][]int
	spots []netSpot
}

type netSpot struct {
	from, to int
	held     [256]bool
}

func (n *net) knot() int {
	n.free = append(n.free, nil)
	return len(n.free) - 1
}

func (n *net) step(from, to int) { n.free[from] = append(n.free[from], to) }

// lay lays a model between two knots, with knots of its own at its ends.
func (n *net) lay(m model, from, to int) {
	if len(n.spots) > api.MaxSpots {
		return
	}
	begin, end := n.knot(), n.knot()
	n.step(from, begin)
	n.step(end, to)
	switch m.kind {
	case isAtom:
		n.spots = append(n.spots, netSpot{begin, end, m.held})
	case isChain:
		for _, kid := range m.kids {
			next := n.knot()
			n.lay(kid, begin, next)
			begin = next
		}
		n.step(begin, end)
	case isChoice:
		for _, kid := range m.kids {
			n.lay(kid, begin, end)
		}
	case isCount:
		n.layCount(m, begin, end)
	}
}

func (n *net) layCount(m model, from, to int) {
	kid := m.kids[0]
	switch m.sign {
	case "?":
		n.step(from, to)
		n.lay(kid, from, to)
		return
	case "+":
		n.layLoop(kid, from, to)
		return
	}
	for range m.least {
		next := n.knot()
		n.lay(kid, from, next)
		from = next
	}
	for range m.most - m.least {
		n.step(from, to)
		next := n.knot()
		n.lay(kid, from, next)
		from = next
	}
	n.step(from, to)
	if m.most < 0 {
		n.layLoop(kid, from, to)
	}
}

func (n *net) layLoop(kid model, from, to int) {
	begin, end := n.knot(), n.knot()
	n.step(from, begin)
	n.lay(kid, begin, end)
	n.step(end, begin)
	n.step(end, to)
}

// netState is a state of the search: the spots that may be next, bit by bit, and whether a match ends.
type netState struct {
	next uint64
	ends bool
}

// from tells the state that is come to at some knots. The knot 1 is the last.
func (n *net) from(knots ...int) netState {
	seen := make([]bool, len(n.free))
	for len(knots) > 0 {
		at := knots[0]
		if knots = knots[1:]; !seen[at] {
			seen[at] = true
			knots = append(knots, n.free[at]...)
		}
	}
	s := netState{ends: seen[1]}
	for i, spot := range n.spots {
		if seen[spot.from] {
			s.next |= 1 << i
		}
	}
	return s
}

func (n *net) read(s netState, b int) []int {
	var knots []int
	for i, spot := range n.spots {
		if s.next>>i&1 == 1 && spot.held[b] {
			knots = append(knots, spot.to)
		}
	}
	return knots
}

// netOf lays a whole model; it is nil, if there are too many spots.
func netOf(w wholeModel) *net {
	n := &net{}
	first, last := n.knot(), n.knot()
	n.lay(w.model, first, last)
	if len(n.spots) > api.MaxSpots {
		return nil
	}
	return n
}

// searched tells the states of the search with a class for each byte, nil if they are more than MaxStates.
func (n *net) searched(front bool) ([]bool, [][256]int) {
	start := n.from(0)
	numbers := map[netState]int{start: 0}
	states := []netState{start}
	var accepts []bool
	var rows [][256]int
	for at := 0; at < len(states); at++ {
		var row [256]int
		for b := range row {
			to := n.from(n.read(states[at], b)...)
			if !front {
				to.next, to.ends = to.next|start.next, to.ends || start.ends
			}
			if _, ok := numbers[to]; !ok {
				numbers[to] = len(states)
				states = append(states, to)
			}
			row[b] = numbers[to]
		}
		if len(states) > api.MaxStates {
			return nil, nil
		}
		accepts, rows = append(accepts, states[at].ends), append(rows, row)
	}
	return accepts, rows
}

// apart tells of each two states whether some text tells them apart.
func apart(accepts []bool, rows [][256]int) [][]bool {
	marks := make([][]bool, len(rows))
	for i := range rows {
		for j := range rows {
			marks[i] = append(marks[i], accepts[i] != accepts[j])
		}
	}
	for changed := true; changed; {
		changed = false
		for i := range rows {
			for j := range i {
				for b := 0; b < 256 && !marks[i][j]; b++ {
					if marks[rows[i][b]][rows[j][b]] {
						marks[i][j], marks[j][i], changed = true, true, true
					}
				}
			}
		}
	}
	return marks
}

// leastOf tells the least table of states with a class for each byte, numbered as the document says.
func leastOf(accepts []bool, rows [][256]int) api.Table {
	marks := apart(accepts, rows)
	// Of each state the least one that is not apart from it.
	same := func(state int) int {
		for i, mark := range marks[state] {
			if !mark {
				return i
			}
		}
		return -1
	}
	var table api.Table
	firsts := classesByFirst(rows, same, &table)
	met := []int{same(0)}
	for at := 0; at < len(met); at++ {
		var row []int
		for _, b := range firsts {
			next := same(rows[met[at]][b])
			number := 0
			for number < len(met) && met[number] != next {
				number++
			}
			if number == len(met) {
				met = append(met, next)
			}
			row = append(row, number)
		}
		table.Accepts, table.Next = append(table.Accepts, accepts[met[at]]), append(table.Next, row)
	}
	return table
}

// classesByFirst puts Classes into a table, and tells the first byte of each class.
func classesByFirst(rows [][256]int, same func(int) int, table *api.Table) []int {
	var firsts []int
	for b := range 256 {
		class := 0
		for class < len(firsts) && !alikeBytes(rows, same, b, firsts[class]) {
			class++
		}
		if class == len(firsts) {
			firsts = append(firsts, b)
		}
		table.Classes += string([]byte{byte(class)})
	}
	return firsts
}

func alikeBytes(rows [][256]int, same func(int) int, b, other int) bool {
	for _, row := range rows {
		if row[b] != row[other] && same(row[b]) != same(row[other]) {
			return false
		}
	}
	return true
}

// wantCompiled: a model is compiled with just those limits with which the document lets it be, and to the table that it asks for. It tells the machine, if there is one.
func wantCompiled(t *testing.T, w wholeModel) *Machine {
	t.Helper()
	text := w.written()
	if len(text) > api.MaxPattern {
		wantNotCompiled(t, text, api.MaxStates, api.ErrLimit, 0)
		return nil
	}
	n := netOf(w)
	if n == nil {
		wantNotCompiled(t, text, api.MaxStates, api.ErrLimit, 0)
		return nil
	}
	accepts, rows := n.searched(w.front)
	if rows == nil {
		wantNotCompiled(t, text, api.MaxStates, api.ErrLimit, 0)
		return nil
	}
	table := leastOf(accepts, rows)
	table.Front, table.Back = w.front, w.back
	if len(rows) > 1 {
		wantNotCompiled(t, text, len(rows)-1, api.ErrLimit, 0)
		wantNotCompiled(t, text, 1, api.ErrLimit, 0)
	}
	m := mustCompile(t, text, len(rows))
	for _, one := range []*Machine{m, mustCompile(t, text, api.MaxStates)} {
		if got, err := one.Table(); !reflect.DeepEqual(got, table) || err != api.OK {
			t.Fatalf("the table of %q is %v, %d, want %v", text, got, err, table)
		}
	}
	return m
}
