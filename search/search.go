// Package search: the spots of a pattern, and its search as a table.
package search

import (
	"hasp/api"
	"hasp/order"
	"hasp/set"
	"hasp/syntax"
)

// state is where a search can be: which spots may be next, and whether a match ends here.
type state struct {
	next set.Set[spot]
	ends bool
}

// search is what a pattern's search goes by.
type search struct {
	expansion
	whole   piece
	front   bool
	readers []set.Set[spot] // of each class of bytes the spots that stand for them
}

// Table tells a pattern's search as a table: its states as they are met, and bytes in one class if the same spots stand for them. It is false, if there are too many spots, or more states than limit.
func Table(p syntax.Pattern, limit int) (api.Table, bool) {
	if spotsOfChoices(p.Choices) > api.MaxSpots {
		return api.Table{}, false
	}
	s := &search{front: p.Front}
	s.whole = s.choices(p.Choices)
	t := api.Table{Front: p.Front, Back: p.Back, Classes: s.classes()}
	if !s.states(&t, limit) {
		return api.Table{}, false
	}
	return t, true
}

// classes tells of each byte its class, and keeps the readers of each class.
func (s *search) classes() string {
	met := order.New[set.Set[spot]]()
	var classes [256]byte
	for b := range classes {
		readers := s.readersOf(byte(b))
		class := met.Of(readers)
		if class == len(s.readers) {
			s.readers = append(s.readers, readers)
		}
		classes[b] = byte(class)
	}
	return string(classes[:])
}

func (s *search) readersOf(b byte) set.Set[spot] {
	var readers set.Set[spot]
	for i, bytes := range s.bytes {
		if bytes.Has(b) {
			readers.Add(spot(i))
		}
	}
	return readers
}

// states puts all states into t, or is false as soon as it knows of more than limit.
func (s *search) states(t *api.Table, limit int) bool {
	met := order.New[state]()
	met.Of(state{next: s.whole.first, ends: s.whole.empty})
next:
	from, ok := met.Next()
	if !ok {
		return true
	}
	row := make([]int, len(s.readers))
	for class, readers := range s.readers {
		row[class] = met.Of(s.step(from, readers))
	}
	if met.Count() > limit {
		return false
	}
	t.Accepts = append(t.Accepts, from.ends)
	t.Next = append(t.Next, row)
	goto next
}

// step reads a byte for which the readers stand.
func (s *search) step(from state, readers set.Set[spot]) state {
	read := from.next.Common(readers)
	to := state{ends: !read.Common(s.whole.last).Empty()}
	for one := range read.All() {
		to.next.AddAll(s.follows[one])
	}
	if !s.front {
		// A match may begin at every place, and so end there if it may be empty.
		to.next.AddAll(s.whole.first)
		to.ends = to.ends || s.whole.empty
	}
	return to
}
