// Package set: sets of small numbers.
package set

import (
	"iter"
	"math/bits"
)

// Small is what a set can hold: kinds of which every number fits, so that none is ever out of its room.
type Small interface{ ~uint8 }

// Set is a value: a copy shares nothing, and two sets are equal (==) if they hold the same.
type Set[T Small] struct{ words [4]uint64 }

// Has tells whether n is in the set.
func (s Set[T]) Has(n T) bool { return s.words[n/64]>>(n%64)&1 == 1 }

// Add puts n into the set.
func (s *Set[T]) Add(n T) { s.words[n/64] |= 1 << (n % 64) }

// AddSpan puts all from low to high into the set: none, if high is below low.
func (s *Set[T]) AddSpan(low, high T) {
	// An int goes on beyond the greatest number, where a T would begin anew.
	for n := int(low); n <= int(high); n++ {
		s.Add(T(n))
	}
}

// AddAll puts all of other into the set.
func (s *Set[T]) AddAll(other Set[T]) {
	for i, w := range other.words {
		s.words[i] |= w
	}
}

// Invert makes the set hold just what it did not hold.
func (s *Set[T]) Invert() {
	for i, w := range s.words {
		s.words[i] = ^w
	}
}

// Common tells what is in both sets.
func (s Set[T]) Common(other Set[T]) Set[T] {
	for i, w := range other.words {
		s.words[i] &= w
	}
	return s
}

// Empty tells whether nothing is in the set.
func (s Set[T]) Empty() bool { return s == Set[T]{} }

// All goes through what is in the set, rising.
func (s Set[T]) All() iter.Seq[T] {
	return func(yield func(T) bool) {
		for i, w := range s.words {
			for w != 0 {
				if !yield(T(64*i + bits.TrailingZeros64(w))) {
					return
				}
				// This turns off the lowest bit alone.
				w &= w - 1
			}
		}
	}
}
