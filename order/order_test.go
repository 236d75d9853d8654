package order

import (
	"testing"

	"hasp/set"
)

func TestList(t *testing.T) {
	var l List[string]
	if thing, ok := l.Take(); thing != "" || ok {
		t.Errorf("of an empty list %q, %v is taken", thing, ok)
	}
	l.Add("b")
	l.Add("a")
	for i, want := range []string{"b", "a", "c", "c"} {
		if thing, ok := l.Take(); thing != want || !ok {
			t.Errorf("%d: %q, %v is taken, want %q", i, thing, ok, want)
		}
		if i == 0 {
			l.Add("c")
			l.Add("c")
		}
	}
	if thing, ok := l.Take(); thing != "" || ok {
		t.Errorf("of a list that is worked off %q, %v is taken", thing, ok)
	}
	l.Add("d")
	if thing, ok := l.Take(); thing != "d" || !ok {
		t.Errorf("behind the end %q, %v is taken", thing, ok)
	}
}

// wantNumbers: things get these numbers, and come once each, in order.
func wantNumbers[T comparable](t *testing.T, things []T, numbers []int, met []T) {
	t.Helper()
	n := New[T]()
	for i, thing := range things {
		if got := n.Of(thing); got != numbers[i] {
			t.Errorf("thing %d, %v, has the number %d, want %d", i, thing, got, numbers[i])
		}
	}
	if n.Count() != len(met) {
		t.Errorf("%d things were met, want %d", n.Count(), len(met))
	}
	for _, want := range met {
		if thing, ok := n.Next(); thing != want || !ok {
			t.Errorf("next is %v, %v, want %v", thing, ok, want)
		}
	}
	var none T
	if thing, ok := n.Next(); thing != none || ok {
		t.Errorf("behind the last is %v, %v", thing, ok)
	}
}

func TestNumbersOfUnlikeThings(t *testing.T) {
	wantNumbers(t, nil, nil, []int(nil))
	wantNumbers(t, []int{7, 0, 7, -1, 0}, []int{0, 1, 0, 2, 1}, []int{7, 0, -1})
	wantNumbers(t, []string{"", "b", "a", "", "ab"}, []int{0, 1, 2, 0, 3}, []string{"", "b", "a", "ab"})
	var none, one, other set.Set[byte]
	one.Add(200)
	other.Add(200)
	wantNumbers(t, []set.Set[byte]{one, none, other}, []int{0, 1, 0}, []set.Set[byte]{one, none})
}

// TestNumbersWhileWorkedOff: what is met while others are taken comes behind them, and what was taken keeps its number.
func TestNumbersWhileWorkedOff(t *testing.T) {
	n := New[int]()
	n.Of(1)
	var taken []int
	for thing, ok := n.Next(); ok; thing, ok = n.Next() {
		taken = append(taken, thing)
		n.Of(thing * 2 % 11)
		n.Of(1)
	}
	for i, want := range []int{1, 2, 4, 8, 5, 10, 9, 7, 3, 6} {
		if i >= len(taken) || taken[i] != want || n.Of(want) != i {
			t.Fatalf("taken are %v", taken)
		}
	}
	if n.Count() != 10 || len(taken) != 10 {
		t.Errorf("%d were met, %d taken", n.Count(), len(taken))
	}
}
