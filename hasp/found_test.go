package hasp

import (
	"math/rand"
	"strings"
	"testing"

	"hasp/api"
)

// alsoLoaded are a machine, and those that are loaded from its bytes, of each kind and order.
func alsoLoaded(t *testing.T, m *Machine) []*Machine {
	t.Helper()
	all := []*Machine{m}
	for _, f := range forms {
		all = append(all, mustLoad(t, mustEncode(t, m, f)))
	}
	return all
}

// TestFoundModels: patterns made by chance, against their search by knots, and against what their own words say of texts.
func TestFoundModels(t *testing.T) {
	m := modeller{rand.New(rand.NewSource(12))}
	refused := 0
	for range 1500 {
		w := m.whole()
		compiled := wantCompiled(t, w)
		if compiled == nil {
			refused++
			continue
		}
		all := alsoLoaded(t, compiled)
		for range 12 {
			text := m.text()
			first, last := w.found(text)
			for _, one := range all {
				wantEnds(t, one, text, first, last)
			}
		}
	}
	if refused < 5 || refused > 200 {
		t.Errorf("%d were refused", refused)
	}
}

// TestFoundByHand: the first and the last end of each pattern in a text.
func TestFoundByHand(t *testing.T) {
	for _, c := range []struct {
		pattern, text string
		first, last   int
	}{
		{"a", "xa", 2, 2}, {"a", "aXa", 1, 3}, {"a", "", -1, -1}, {"", "", 0, 0}, {"", "abc", 0, 3}, {"$", "abc", 3, 3}, {"^", "abc", 0, 0}, {"^$", "", 0, 0}, {"^$", "a", -1, -1},
		{"^a", "aa", 1, 1}, {"^a", "ba", -1, -1}, {"a$", "aab", -1, -1}, {"a$", "ba", 2, 2}, {"^a$", "a", 1, 1}, {"^a$", "aa", -1, -1}, {"^a|b", "cb", -1, -1}, {"^a|b", "b", 1, 1}, {"a|b$", "ac", -1, -1},
		{"^a*", "aab", 0, 2}, {"a*", "baab", 0, 4}, {"^a*$", "aab", -1, -1}, {"a*$", "aab", 3, 3}, {"a+", "baab", 2, 3}, {"a{2}", "aaa", 2, 3}, {"^a{2}", "aaa", 2, 2}, {"^a{2,}", "aaaa", 2, 4},
		{"^a{1,2}", "aaaa", 1, 2}, {"^(ab){0,2}", "ababab", 0, 4}, {"^(a|ab)(c|bcd)", "abcd", 3, 4}, {"^(a{2}){2,3}", "aaaaaaaa", 4, 6}, {"^a{2}{2,3}$", "aaaaa", -1, -1}, {"^a?{3}", "aaaa", 0, 3},
		{".", "\n", -1, -1}, {".", "\n\x00", 2, 2}, {"a.b", "a\nb", -1, -1}, {"[^a]", "\n", 1, 1}, {"\\s", "x\r", 2, 2}, {"\\s", "\v\f", -1, -1}, {"\\w+", "-_-", 2, 2}, {"\\d", "\xb2", -1, -1},
		{"[^\\x00-\\xff]", "abc", -1, -1}, {"[^\\x00-\\xff]*", "abc", 0, 3}, {"a|[^\\x00-\\xff]", "ba", 2, 2}, {"\\xe4", "\xc3\xe4", 2, 2}, {"\xc3\xa4", "x\xc3\xa4", 3, 3}, {"^.$", "\xc3\xa4", -1, -1},
		{"aab", "aaab", 4, 4}, {"abab", "ababab", 4, 6}, {"ab|abcd", "abcd", 2, 4}, {"a{0}b", "ab", 2, 2}, {"a{0}", "ab", 0, 2}, {"(a|b)*c", "abc", 3, 3}, {"^(a|b)*c", "axc", -1, -1},
	} {
		for _, m := range alsoLoaded(t, mustCompile(t, c.pattern, api.MaxStates)) {
			wantEnds(t, m, c.text, c.first, c.last)
		}
	}
}

// TestFoundClasses: of classes made by chance each byte is found that the tree's text tells, and no other one.
func TestFoundClasses(t *testing.T) {
	m := maker{rand.New(rand.NewSource(15))}
	for range 200 {
		text, tree := m.class()
		machine := mustCompile(t, text, 2)
		var held [256]bool
		for n := range held {
			held[n], _ = machine.IsMatch(string([]byte{byte(n)}))
		}
		if got := spans(held); got != tree {
			t.Errorf("%q finds %s, want %s", text, got, tree)
		}
	}
}

// TestFoundInLongTexts: as far as a text goes.
func TestFoundInLongTexts(t *testing.T) {
	long := strings.Repeat("ab", 1<<17)
	for _, c := range []struct {
		pattern, text string
		first, last   int
	}{
		{"ba", long, 3, 1<<18 - 1}, {"^(ab)*$", long, 1 << 18, 1 << 18}, {"^(ab)*$", long + "a", -1, -1}, {"^(ab)*", long + "a", 0, 1 << 18},
		{"c", long + "c" + long, 1<<18 + 1, 1<<18 + 1}, {"^[ab]*c[ab]{3}", long + "c" + long, 1<<18 + 4, 1<<18 + 4}, {"bb", long, -1, -1},
	} {
		for _, m := range alsoLoaded(t, mustCompile(t, c.pattern, api.MaxStates)) {
			wantEnds(t, m, c.text, c.first, c.last)
		}
	}
}
