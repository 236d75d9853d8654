// Package hasp: patterns, tables and searches: see DOC.md.
package hasp

import (
	"hasp/api"
	"hasp/automaton"
	"hasp/least"
	"hasp/search"
	"hasp/syntax"
	"hasp/wire"
)

// Machine is a table that searches.
type Machine struct{ automaton *automaton.Automaton }

// Parse reads a pattern (P3).
func Parse(pattern string) (string, api.Errno, int) {
	tree, err, place := syntax.Read(pattern)
	if err != api.OK {
		return "", err, place
	}
	return tree.Text(), api.OK, 0
}

// Compile makes a machine of a pattern (P4).
func Compile(pattern string, limit int) (*Machine, api.Errno, int) {
	if limit < 1 || limit > api.MaxStates {
		return nil, api.ErrArg, 0
	}
	tree, err, place := syntax.Read(pattern)
	if err != api.OK {
		return nil, err, place
	}
	t, ok := search.Table(tree, limit)
	if !ok {
		return nil, api.ErrLimit, 0
	}
	// The least table is a table, so New takes it.
	a, _ := automaton.New(least.Table(t))
	return &Machine{a}, api.OK, 0
}

// Build makes a machine of a table (P6).
func Build(t api.Table) (*Machine, api.Errno) {
	a, ok := automaton.New(t)
	if !ok {
		return nil, api.ErrTable
	}
	return &Machine{a}, api.OK
}

// Table tells a machine's table (P6).
func (m *Machine) Table() (api.Table, api.Errno) {
	if m == nil {
		return api.Table{}, api.ErrNil
	}
	return m.automaton.Table(), api.OK
}

// Encode writes a machine's table (P7).
func (m *Machine) Encode(kind int, big bool) (string, api.Errno) {
	if m == nil {
		return "", api.ErrNil
	}
	if kind != api.Dense && kind != api.Sparse {
		return "", api.ErrArg
	}
	return wire.Write(m.automaton.Table(), kind, big), api.OK
}

// Load makes a machine of bytes (P8).
func Load(b string) (*Machine, api.Errno) {
	t, ok := wire.Read(b)
	if !ok {
		return nil, api.ErrBytes
	}
	a, ok := automaton.New(t)
	if !ok {
		return nil, api.ErrBytes
	}
	return &Machine{a}, api.OK
}

// IsMatch tells whether a text has a match (P9).
func (m *Machine) IsMatch(text string) (bool, api.Errno) {
	if m == nil {
		return false, api.ErrNil
	}
	return m.automaton.FirstEnd(text) >= 0, api.OK
}

// ShortestEnd tells where the first match ends (P9).
func (m *Machine) ShortestEnd(text string) (int, api.Errno) {
	if m == nil {
		return 0, api.ErrNil
	}
	return m.automaton.FirstEnd(text), api.OK
}

// LongestEnd tells where the last match ends (P9).
func (m *Machine) LongestEnd(text string) (int, api.Errno) {
	if m == nil {
		return 0, api.ErrNil
	}
	return m.automaton.LastEnd(text), api.OK
}
