// Package syntax: patterns as trees, read from texts and told as texts.
package syntax

import "hasp/set"

// Pattern is a pattern's tree.
type Pattern struct {
	Front, Back bool // whether it has `^` and `$`
	Choices     Choices
}

// Choices are one or more chains.
type Choices []Chain

// Chain is zero or more parts.
type Chain []Part

// Part is an atom and the counts behind it, the innermost first.
type Part struct {
	Atom   Atom
	Counts []Count
}

// Atom is a group, if Group has chains (the choices of every group have), else the bytes that it stands for.
type Atom struct {
	Group Choices
	Bytes set.Set[byte]
}

// Endless is Most of a count that has no greatest number.
const Endless = -1

// Count keeps the sign it is written with, since `*` and `{0,}` are told (and `+` and `{1,}` expanded) in unlike ways.
type Count struct {
	Sign        byte // `*`, `+`, `?` or `{`
	Least, Most int  // of `{` alone
}
