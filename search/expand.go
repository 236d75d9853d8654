package search

import (
	"hasp/set"
	"hasp/syntax"
)

// spot is a spot's number: all of MaxSpots fit.
type spot uint8

// piece is some of the expansion: which of its spots may come first, which may be last, and whether it may be left without any.
type piece struct {
	first, last set.Set[spot]
	empty       bool
}

// expansion is all spots that were made so far: of each the bytes that it stands for, and the spots that may follow it.
type expansion struct {
	bytes   []set.Set[byte]
	follows []set.Set[spot]
}

func (e *expansion) choices(chains syntax.Choices) piece {
	var all piece
	for _, chain := range chains {
		one := e.chain(chain)
		all.first.AddAll(one.first)
		all.last.AddAll(one.last)
		all.empty = all.empty || one.empty
	}
	return all
}

func (e *expansion) chain(parts syntax.Chain) piece {
	all := piece{empty: true}
	for _, part := range parts {
		all = e.join(all, e.part(part))
	}
	return all
}

// part makes new spots at each call: those of one copy of the part.
func (e *expansion) part(part syntax.Part) piece {
	// However often nothing is repeated, it stays nothing; and it could be repeated too often to be gone through.
	if spotsOfPart(part) == 0 {
		return piece{empty: true}
	}
	last := len(part.Counts) - 1
	if last < 0 {
		return e.atom(part.Atom)
	}
	count := part.Counts[last]
	part.Counts = part.Counts[:last]
	return e.times(part, count)
}

func (e *expansion) atom(atom syntax.Atom) piece {
	if len(atom.Group) > 0 {
		return e.choices(atom.Group)
	}
	var one set.Set[spot]
	one.Add(spot(len(e.bytes)))
	e.bytes = append(e.bytes, atom.Bytes)
	e.follows = append(e.follows, set.Set[spot]{})
	return piece{first: one, last: one}
}

func (e *expansion) times(part syntax.Part, count syntax.Count) piece {
	switch count.Sign {
	case '*':
		return maybe(e.again(e.part(part)))
	case '+':
		return e.again(e.part(part))
	case '?':
		return maybe(e.part(part))
	}
	rest, most := piece{empty: true}, count.Most
	if most == syntax.Endless {
		rest, most = maybe(e.again(e.part(part))), count.Least
	}
	// From behind: what may be left out is left out with all that follows it.
	for range most - count.Least {
		rest = maybe(e.join(e.part(part), rest))
	}
	for range count.Least {
		rest = e.join(e.part(part), rest)
	}
	return rest
}

// join lays one piece behind another one.
func (e *expansion) join(a, b piece) piece {
	e.follow(a.last, b.first)
	both := piece{first: a.first, last: b.last, empty: a.empty && b.empty}
	if a.empty {
		both.first.AddAll(b.first)
	}
	if b.empty {
		both.last.AddAll(a.last)
	}
	return both
}

// again lets a piece follow itself.
func (e *expansion) again(p piece) piece {
	e.follow(p.last, p.first)
	return p
}

func (e *expansion) follow(lasts, firsts set.Set[spot]) {
	for last := range lasts.All() {
		e.follows[last].AddAll(firsts)
	}
}

// maybe lets a piece be left out.
func maybe(p piece) piece {
	p.empty = true
	return p
}
