// Package hasp: patterns, tables and searches: see DOC.md.
package hasp

import (
	"hasp/api"
	"hasp/syntax"
)

// Machine is a table that searches.
type Machine struct{}

// Parse reads a pattern (P3).
func Parse(pattern string) (string, api.Errno, int) {
	tree, err, place := syntax.Read(pattern)
	if err != api.OK {
		return "", err, place
	}
	return tree.Text(), api.OK, 0
}

// Compile makes a machine of a pattern (P4).
func Compile(pattern string, limit int) (*Machine, api.Errno, int) { return nil, api.OK, 0 }

// Build makes a machine of a table (P6).
func Build(t api.Table) (*Machine, api.Errno) { return nil, api.OK }

// Table tells a machine's table (P6).
func (m *Machine) Table() (api.Table, api.Errno) { return api.Table{}, api.OK }

// Encode writes a machine's table (P7).
func (m *Machine) Encode(kind int, big bool) (string, api.Errno) { return "", api.OK }

// Load makes a machine of bytes (P8).
func Load(b string) (*Machine, api.Errno) { return nil, api.OK }

// IsMatch tells whether a text has a match (P9).
func (m *Machine) IsMatch(text string) (bool, api.Errno) { return false, api.OK }

// ShortestEnd tells where the first match ends (P9).
func (m *Machine) ShortestEnd(text string) (int, api.Errno) { return 0, api.OK }

// LongestEnd tells where the last match ends (P9).
func (m *Machine) LongestEnd(text string) (int, api.Errno) { return 0, api.OK }
