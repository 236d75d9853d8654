package set

import "testing"

type spot uint8

func holds[T Small](s Set[T]) []int {
	var all []int
	for n := range 256 {
		if s.Has(T(n)) {
			all = append(all, n)
		}
	}
	return all
}

func same(a, b []int) bool {
	if len(a) != len(b) {
		return false
	}
	for i := range a {
		if a[i] != b[i] {
			return false
		}
	}
	return true
}

func TestAdd(t *testing.T) {
	var s Set[byte]
	if got := holds(s); got != nil {
		t.Errorf("a new set holds %v", got)
	}
	for _, n := range []byte{255, 0, 63, 64, 127, 128, 64} {
		s.Add(n)
	}
	if got := holds(s); !same(got, []int{0, 63, 64, 127, 128, 255}) {
		t.Errorf("holds %v", got)
	}
}

func TestAddSpan(t *testing.T) {
	for _, c := range []struct{ low, high spot }{{0, 255}, {255, 255}, {0, 0}, {60, 70}, {254, 255}, {1, 0}, {255, 0}} {
		var s Set[spot]
		s.AddSpan(c.low, c.high)
		for n := range 256 {
			if want := int(c.low) <= n && n <= int(c.high); s.Has(spot(n)) != want {
				t.Errorf("span %d to %d: has %d: %v", c.low, c.high, n, !want)
			}
		}
	}
}

func TestAddAllAndInvert(t *testing.T) {
	var s, other Set[byte]
	s.AddSpan(0, 100)
	other.AddSpan(99, 253)
	s.AddAll(other)
	s.Invert()
	if got := holds(s); !same(got, []int{254, 255}) {
		t.Errorf("holds %v", got)
	}
	if got := holds(other); len(got) != 155 {
		t.Errorf("what was added has changed: %v", got)
	}
}

func TestIsAValue(t *testing.T) {
	var s Set[byte]
	s.Add(7)
	twin := s
	if twin != s {
		t.Error("a copy is not equal")
	}
	twin.Add(8)
	if s.Has(8) || twin == s {
		t.Error("a copy shares memory")
	}
}

func TestCommonAndEmpty(t *testing.T) {
	var s, other, none Set[spot]
	s.AddSpan(0, 130)
	other.AddSpan(127, 255)
	if got := holds(s.Common(other)); !same(got, []int{127, 128, 129, 130}) {
		t.Errorf("common are %v", got)
	}
	if s.Common(other) != other.Common(s) {
		t.Error("what is common hangs on the order")
	}
	if len(holds(s)) != 131 || len(holds(other)) != 129 {
		t.Error("a set was changed")
	}
	if got := s.Common(none); !got.Empty() || !none.Empty() || s.Empty() {
		t.Errorf("common with none are %v", holds(got))
	}
	for n := range 256 {
		var one Set[spot]
		if one.Add(spot(n)); one.Empty() {
			t.Errorf("a set with %d is empty", n)
		}
	}
}

func TestAll(t *testing.T) {
	var s Set[spot]
	for range s.All() {
		t.Error("an empty set has something")
	}
	for _, n := range []spot{255, 0, 63, 64, 128, 1, 191, 192} {
		s.Add(n)
	}
	var all []int
	for n := range s.All() {
		all = append(all, int(n))
	}
	if !same(all, []int{0, 1, 63, 64, 128, 191, 192, 255}) {
		t.Errorf("all are %v", all)
	}
	for n := range s.All() {
		if n == 64 {
			break
		}
		if n > 64 {
			t.Errorf("gone on to %d", n)
		}
	}
	s.AddSpan(0, 255)
	count := 0
	for n := range s.All() {
		if int(n) != count {
			t.Fatalf("%d comes as %d", n, count)
		}
		count++
	}
	if count != 256 {
		t.Errorf("of 256 there came %d", count)
	}
}
