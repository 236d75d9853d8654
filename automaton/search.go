package automaton

import "iter"

// FirstEnd tells the first place of a text where a match ends, -1 if there is none.
func (a *Automaton) FirstEnd(text string) int {
	for at := range a.ends(text) {
		return at
	}
	return -1
}

// LastEnd tells the last place of a text where a match ends, -1 if there is none.
func (a *Automaton) LastEnd(text string) int {
	last := -1
	for at := range a.ends(text) {
		last = at
	}
	return last
}

// ends goes through the places of a text where a match ends, rising.
func (a *Automaton) ends(text string) iter.Seq[int] {
	return func(yield func(int) bool) {
		state := a.start
		for at := range len(text) {
			if !a.back && a.accepts.Has(state) && !yield(at) {
				return
			}
			state = a.next[state][a.classes[text[at]]]
		}
		// The text's end is a place too, and the only one that Back lets be.
		if a.accepts.Has(state) {
			yield(len(text))
		}
	}
}
