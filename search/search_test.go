package search

import (
	"reflect"
	"strings"
	"testing"

	"hasp/api"
	"hasp/set"
	"hasp/syntax"
)

func read(t *testing.T, text string) syntax.Pattern {
	t.Helper()
	p, err, place := syntax.Read(text)
	if err != api.OK {
		t.Fatalf("%q: error %d at %d", text, err, place)
	}
	return p
}

func TestSpots(t *testing.T) {
	for _, c := range []struct {
		text string
		many int
	}{
		{"", 0}, {"()", 0}, {"|", 0}, {"a", 1}, {".", 1}, {"[^\\x00-\\xff]", 1}, {"ab", 2}, {"a|b", 2}, {"(a|b)c", 3},
		{"a*", 1}, {"a+", 1}, {"a?", 1}, {"a*+?", 1}, {"a{0}", 0}, {"a{1}", 1}, {"a{7}", 7}, {"a{0,7}", 7}, {"a{3,7}", 7}, {"a{7,7}", 7},
		{"a{0,}", 1}, {"a{1,}", 2}, {"a{7,}", 8}, {"a{2}{3}", 6}, {"a{2,}{3,}", 12}, {"(ab{2}){3}", 9}, {"(a{2}|b)*{2,}", 9},
		{"a{30}a{30}a{4}", 64}, {"a{30}a{30}a{5}", tooMany}, {"a{30}{30}", tooMany}, {"a{30}{30}{30}{0}", 0}, {"(a{30}{30}){0}b", 1}, {"(){30}{30}", 0},
		{"a" + strings.Repeat("{2}", 64), tooMany}, {"a" + strings.Repeat("{16}", 16), tooMany}, {"a{0}" + strings.Repeat("{30}", 40), 0},
	} {
		if got := spotsOfChoices(read(t, c.text).Choices); got != c.many {
			t.Errorf("%q has %d spots, want %d", c.text, got, c.many)
		}
	}
}

// told writes a set of spots by the bytes that they stand for, each with how many of that byte are ahead of it.
func told(e *expansion, spots set.Set[spot]) string {
	text := ""
	ahead := map[byte]int{}
	for i, bytes := range e.bytes {
		for b := range bytes.All() {
			ahead[b]++
			if spots.Has(spot(i)) {
				text += string([]byte{b, byte('0' + ahead[b])})
			}
		}
	}
	return text
}

// TestExpansion: the copies of a count in braces are made from behind, so its last copy has the least number.
func TestExpansion(t *testing.T) {
	for _, c := range []struct {
		text, first, last string
		empty             bool
		follows           []string
	}{
		{"", "", "", true, nil},
		{"a", "a1", "a1", false, []string{""}},
		{"ab", "a1", "b1", false, []string{"b1", ""}},
		{"a|b", "a1b1", "a1b1", false, []string{"", ""}},
		{"a?b", "a1b1", "b1", false, []string{"b1", ""}},
		{"ab?", "a1", "a1b1", false, []string{"b1", ""}},
		{"a*b*", "a1b1", "a1b1", true, []string{"a1b1", "b1"}},
		{"(ab)+", "a1", "b1", false, []string{"b1", "a1"}},
		{"(a*b*)*", "a1b1", "a1b1", true, []string{"a1b1", "a1b1"}},
		{"a{0,3}", "a3", "a1a2a3", true, []string{"", "a1", "a2"}},
		{"a?a?a?", "a1a2a3", "a1a2a3", true, []string{"a2a3", "a3", ""}},
		{"a{1,3}", "a3", "a1a2a3", false, []string{"", "a1", "a2"}},
		{"a{2,3}", "a3", "a1a2", false, []string{"", "a1", "a2"}},
		{"a{2}", "a2", "a1", false, []string{"", "a1"}},
		{"a{2,}", "a3", "a1a2", false, []string{"a1", "a1", "a2"}},
		{"a{0,}", "a1", "a1", true, []string{"a1"}},
		{"a{0}b", "b1", "b1", false, []string{""}},
		{"a?{2}", "a1a2", "a1a2", true, []string{"", "a1"}},
		{"a{2}*", "a2", "a1", true, []string{"a2", "a1"}},
		{"a*{2}", "a1a2", "a1a2", true, []string{"a1", "a1a2"}},
		{"(){30}{30}a(|())", "a1", "a1", false, []string{""}},
	} {
		e := &expansion{}
		whole := e.choices(read(t, c.text).Choices)
		if first, last := told(e, whole.first), told(e, whole.last); first != c.first || last != c.last || whole.empty != c.empty {
			t.Errorf("%q: first %s, last %s, empty %v", c.text, first, last, whole.empty)
		}
		var follows []string
		for _, spots := range e.follows {
			follows = append(follows, told(e, spots))
		}
		if !reflect.DeepEqual(follows, c.follows) {
			t.Errorf("%q: follow %q, want %q", c.text, follows, c.follows)
		}
	}
}

// TestTableIsNotTheLeast: the search is told as it is, with all its states.
func TestTableIsNotTheLeast(t *testing.T) {
	b := make([]byte, 256)
	b['a'], b['b'] = 1, 2
	want := api.Table{
		Back:    true,
		Classes: string(b),
		Accepts: []bool{false, false, true},
		Next:    [][]int{{0, 1, 2}, {0, 1, 2}, {0, 1, 2}},
	}
	p := read(t, "ab|b$")
	if got, ok := Table(p, 3); !reflect.DeepEqual(got, want) || !ok {
		t.Errorf("Table = %v, %v, want %v", got, ok, want)
	}
	if got, ok := Table(p, 2); !reflect.DeepEqual(got, api.Table{}) || ok {
		t.Errorf("with too low a limit Table = %v, %v", got, ok)
	}
	if got, ok := Table(read(t, "a{30}a{30}a{5}"), 200); !reflect.DeepEqual(got, api.Table{}) || ok {
		t.Errorf("with too many spots Table = %v, %v", got, ok)
	}
}
