// Package automaton: tables that were found to be tables, and searches with them.
package automaton

import (
	"hasp/api"
	"hasp/set"
)

// State is a state's number: all of MaxStates fit.
type State uint8

// Automaton is a table in memory of its own. It never changes once it is made, so what was told of it stays true.
type Automaton struct {
	front, back bool
	start       State
	classes     [256]byte
	accepts     set.Set[State]
	next        [][]State // of each state, by class
}

// New makes an automaton of a table, if t is one.
func New(t api.Table) (*Automaton, bool) {
	if !isTable(t) {
		return nil, false
	}
	a := &Automaton{front: t.Front, back: t.Back, start: State(t.Start), next: make([][]State, len(t.Next))}
	copy(a.classes[:], t.Classes)
	for i, row := range t.Next {
		a.next[i] = converted[State](row)
		if t.Accepts[i] {
			a.accepts.Add(State(i))
		}
	}
	return a, true
}

// Table tells the automaton's table, each list of it in memory of its own.
func (a *Automaton) Table() api.Table {
	t := api.Table{
		Front:   a.front,
		Back:    a.back,
		Start:   int(a.start),
		Classes: string(a.classes[:]),
		Accepts: make([]bool, len(a.next)),
		Next:    make([][]int, len(a.next)),
	}
	for i, row := range a.next {
		t.Accepts[i] = a.accepts.Has(State(i))
		t.Next[i] = converted[int](row)
	}
	return t
}

// converted makes a new list of the same numbers in another kind. Those that come from outside were found to fit.
func converted[To, From ~int | ~uint8](list []From) []To {
	out := make([]To, len(list))
	for i, n := range list {
		out[i] = To(n)
	}
	return out
}
