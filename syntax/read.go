package syntax

import "hasp/api"

// reader goes through a text. It steps over a byte only if what it has then read is a beginning of some pattern: so, where it can't go on, it stands at the place of the fault.
type reader struct {
	text           string
	at             int
	depth, deepest int // groups that are open, and the most that were
}

// Read makes the tree of a pattern, or tells the error and its place.
func Read(text string) (Pattern, api.Errno, int) {
	if len(text) > api.MaxPattern {
		return Pattern{}, api.ErrLimit, 0
	}
	r := reader{text: text}
	p, ok := r.pattern()
	if !ok {
		return Pattern{}, api.ErrSyntax, r.at
	}
	if r.deepest > api.MaxNest {
		return Pattern{}, api.ErrLimit, 0
	}
	return p, api.OK, 0
}

// peek tells the next byte, if there is one.
func (r *reader) peek() (byte, bool) {
	if r.at == len(r.text) {
		return 0, false
	}
	return r.text[r.at], true
}

// take steps over the next byte, if it is b.
func (r *reader) take(b byte) bool {
	next, ok := r.peek()
	if !ok || next != b {
		return false
	}
	r.at++
	return true
}

func (r *reader) pattern() (Pattern, bool) {
	front := r.take('^')
	choices, ok := r.choices()
	if !ok {
		return Pattern{}, false
	}
	back := r.take('$')
	return Pattern{Front: front, Back: back, Choices: choices}, r.at == len(r.text)
}

func (r *reader) choices() (Choices, bool) {
	var chains Choices
next:
	chain, ok := r.chain()
	if !ok {
		return nil, false
	}
	chains = append(chains, chain)
	if r.take('|') {
		goto next
	}
	return chains, true
}

func (r *reader) chain() (Chain, bool) {
	var parts Chain
next:
	if !r.beginsAtom() {
		return parts, true
	}
	part, ok := r.part()
	if !ok {
		return nil, false
	}
	parts = append(parts, part)
	goto next
}

func (r *reader) part() (Part, bool) {
	atom, ok := r.atom()
	if !ok {
		return Part{}, false
	}
	counts, ok := r.counts()
	return Part{Atom: atom, Counts: counts}, ok
}

// beginsAtom tells whether an atom may begin with the next byte.
func (r *reader) beginsAtom() bool {
	b, ok := r.peek()
	if !ok {
		return false
	}
	switch b {
	case '.', '\\', '[', '(':
		return true
	}
	return !isSign(b)
}

// atom is called only where an atom begins.
func (r *reader) atom() (Atom, bool) {
	b := r.text[r.at]
	r.at++
	var a Atom
	ok := true
	switch b {
	case '(':
		a.Group, ok = r.group()
	case '[':
		a.Bytes, ok = r.class()
	case '\\':
		a.Bytes, ok = r.escape()
	case '.':
		a.Bytes.Add('\n')
		a.Bytes.Invert()
	default:
		a.Bytes.Add(b)
	}
	return a, ok
}

// group reads what stands behind a `(`, up to its `)`.
func (r *reader) group() (Choices, bool) {
	r.depth++
	r.deepest = max(r.deepest, r.depth)
	choices, ok := r.choices()
	r.depth--
	if !ok || !r.take(')') {
		return nil, false
	}
	return choices, true
}
