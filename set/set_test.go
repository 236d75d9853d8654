package set

import "testing"

type spot uint8

func holds[T Small](s Set[T]) []int {
	var all []int
	for n := range 256 {
		if s.Has(T(n)) {
			all = append(all, n)
		}
	}
	return all
}

func same(a, b []int) bool {
	if len(a) != len(b) {
		return false
	}
	for i := range a {
		if a[i] != b[i] {
			return false
		}
	}
	return true
}

func TestAdd(t *testing.T) {
	var s Set[byte]
	if got := holds(s); got != nil {
		t.Errorf("a new set holds %v", got)
	}
	for _, n := range []byte{255, 0, 63, 64, 127, 128, 64} {
		s.Add(n)
	}
	if got := holds(s); !same(got, []int{0, 63, 64, 127, 128, 255}) {
		t.Errorf("holds %v", got)
	}
}

func TestAddSpan(t *testing.T) {
	for _, c := range []struct{ low, high spot }{{0, 255}, {255, 255}, {0, 0}, {60, 70}, {254, 255}, {1, 0}, {255, 0}} {
		var s Set[spot]
		s.AddSpan(c.low, c.high)
		for n := range 256 {
			if want := int(c.low) <= n && n <= int(c.high); s.Has(spot(n)) != want {
				t.Errorf("span %d to %d: has %d: %v", c.low, c.high, n, !want)
			}
		}
	}
}

func TestAddAllAndInvert(t *testing.T) {
	var s, other Set[byte]
	s.AddSpan(0, 100)
	other.AddSpan(99, 253)
	s.AddAll(other)
	s.Invert()
	if got := holds(s); !same(got, []int{254, 255}) {
		t.Errorf("holds %v", got)
	}
	if got := holds(other); len(got) != 155 {
		t.Errorf("what was added has changed: %v", got)
	}
}

func TestIsAValue(t *testing.T) {
	var s Set[byte]
	s.Add(7)
	twin := s
	if twin != s {
		t.Error("a copy is not equal")
	}
	twin.Add(8)
	if s.Has(8) || twin == s {
		t.Error("a copy shares memory")
	}
}
