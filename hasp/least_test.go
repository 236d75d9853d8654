package hasp

import (
	"math/rand"
	"reflect"
	"strings"
	"testing"

	"hasp/api"
)

// byteClasses makes Classes: each byte of the text number i has the class i+1, all others 0.
func byteClasses(texts ...string) string {
	others := map[int]byte{}
	for i, text := range texts {
		for _, b := range []byte(text) {
			others[int(b)] = byte(i + 1)
		}
	}
	return classesOf(others)
}

// never is the table of what is never found.
func never() api.Table {
	return api.Table{Classes: classesOf(nil), Accepts: []bool{false}, Next: [][]int{{0}}}
}

// wantTableOf: the table of the pattern is this one, with Front and Back as the pattern has `^` and `$`.
func wantTableOf(t *testing.T, pattern string, want api.Table) {
	t.Helper()
	want.Front, want.Back = strings.HasPrefix(pattern, "^"), strings.HasSuffix(pattern, "$")
	m := mustCompile(t, pattern, api.MaxStates)
	if got, err := m.Table(); !reflect.DeepEqual(got, want) || err != api.OK {
		t.Errorf("the table of %q is %v, %d, want %v", pattern, got, err, want)
	}
}

// TestCompileTables: tables written out by hand.
func TestCompileTables(t *testing.T) {
	yes, no := true, false
	for _, c := range []struct {
		patterns string // with blanks between them
		classes  string
		accepts  []bool
		next     [][]int
	}{
		{"a a+ a{1} a|a aa*", byteClasses("a"), []bool{no, yes}, [][]int{{0, 1}, {0, 1}}},
		{"a$", byteClasses("a"), []bool{no, yes}, [][]int{{0, 1}, {0, 1}}},
		{"^a ^a$ ^(a)", byteClasses("a"), []bool{no, no, yes}, [][]int{{1, 2}, {1, 1}, {1, 1}}},
		{"() $ a* a? (a|) [\\x00-\\xff]* (b{0,3}c)?", classesOf(nil), []bool{yes}, [][]int{{0}}},
		{"^ ^$ ^() ^a{0}", classesOf(nil), []bool{yes, no}, [][]int{{1}, {1}}},
		{"ab", byteClasses("a", "b"), []bool{no, no, yes}, [][]int{{0, 1, 0}, {0, 1, 2}, {0, 1, 0}}},
		{"ba", byteClasses("a", "b"), []bool{no, no, yes}, [][]int{{0, 0, 1}, {0, 2, 1}, {0, 0, 1}}},
		{"^ab ^ab$", byteClasses("a", "b"), []bool{no, no, no, yes}, [][]int{{1, 2, 1}, {1, 1, 1}, {1, 1, 3}, {1, 1, 1}}},
		{"^ba", byteClasses("a", "b"), []bool{no, no, no, yes}, [][]int{{1, 1, 2}, {1, 1, 1}, {1, 3, 1}, {1, 1, 1}}},
		{".", byteClasses("\n"), []bool{no, yes}, [][]int{{1, 0}, {1, 0}}},
		{"\\n", byteClasses("\n"), []bool{no, yes}, [][]int{{0, 1}, {0, 1}}},
		{"\\xff", byteClasses("\xff"), []bool{no, yes}, [][]int{{0, 1}, {0, 1}}},
		{"\\x00", "\x00" + strings.Repeat("\x01", 255), []bool{no, yes}, [][]int{{1, 0}, {1, 0}}},
		{"[^\\x00]", "\x00" + strings.Repeat("\x01", 255), []bool{no, yes}, [][]int{{0, 1}, {0, 1}}},
		{"[^a]", byteClasses("a"), []bool{no, yes}, [][]int{{1, 0}, {1, 0}}},
		{"[\\x00-\\xff] .|\\n", classesOf(nil), []bool{no, yes}, [][]int{{1}, {1}}},
		{"^[\\x00-\\xff]", classesOf(nil), []bool{no, yes, no}, [][]int{{1}, {2}, {2}}},
		{"a|b [ab] b|a", byteClasses("ab"), []bool{no, yes}, [][]int{{0, 1}, {0, 1}}},
		{"\\d+ \\d", byteClasses("0123456789"), []bool{no, yes}, [][]int{{0, 1}, {0, 1}}},
		{"ab|b b", byteClasses("b"), []bool{no, yes}, [][]int{{0, 1}, {0, 1}}},
		{"^(ab|cb) ^[ac]b", byteClasses("ac", "b"), []bool{no, no, no, yes}, [][]int{{1, 2, 1}, {1, 1, 1}, {1, 1, 3}, {1, 1, 1}}},
		{"a{2} aaa?", byteClasses("a"), []bool{no, no, yes}, [][]int{{0, 1}, {0, 2}, {0, 2}}},
		{"^a*b", byteClasses("a", "b"), []bool{no, no, yes}, [][]int{{1, 0, 2}, {1, 1, 1}, {1, 1, 1}}},
		{"^a+ ^aa*", byteClasses("a"), []bool{no, no, yes}, [][]int{{1, 2}, {1, 1}, {1, 2}}},
		{"^(aa)*$ ^(aa)*", byteClasses("a"), []bool{yes, no, no}, [][]int{{1, 2}, {1, 1}, {1, 0}}},
		{"^(a|b)*$ ^[ab]*", byteClasses("ab"), []bool{yes, no}, [][]int{{1, 0}, {1, 1}}},
		{"^(a|ba)*b?$", byteClasses("a", "b"), []bool{yes, no, yes}, [][]int{{1, 0, 2}, {1, 1, 1}, {1, 0, 1}}},
		{"^[^\\x00-\\x01]\\x00", "\x00\x01" + strings.Repeat("\x02", 254), []bool{no, no, no, yes}, [][]int{{1, 1, 2}, {1, 1, 1}, {3, 1, 1}, {1, 1, 1}}},
	} {
		for _, pattern := range strings.Fields(c.patterns) {
			wantTableOf(t, pattern, api.Table{Classes: c.classes, Accepts: c.accepts, Next: c.next})
		}
	}
	wantTableOf(t, "", api.Table{Classes: classesOf(nil), Accepts: []bool{yes}, Next: [][]int{{0}}})
	wantTableOf(t, " ", api.Table{Classes: byteClasses(" "), Accepts: []bool{no, yes}, Next: [][]int{{0, 1}, {0, 1}}})
}

// TestCompileNoByte: a spot for no byte is never read, and what hangs on it is never found.
func TestCompileNoByte(t *testing.T) {
	const none = "[^\\x00-\\xff]"
	for _, pattern := range []string{none, "^" + none, none + "$", "^" + none + "$", "a" + none, none + "a", none + "+", none + "{2,}", none + "|" + none, "^a*" + none + "b", "(" + none + "?" + none + "){1,3}", "[^\\d\\x00-/:-\\xff]"} {
		wantTableOf(t, pattern, never())
	}
	everywhere := api.Table{Classes: classesOf(nil), Accepts: []bool{true}, Next: [][]int{{0}}}
	for _, pattern := range []string{none + "*", none + "?", none + "{0}", none + "{0,9}", none + "|", "(" + none + "a)*", "a*|" + none} {
		wantTableOf(t, pattern, everywhere)
	}
	for _, pattern := range []string{"a|" + none, "a(" + none + ")?", none + "*a", "a|b" + none, "a(" + none + "b)*"} {
		wantTableOf(t, pattern, seekA())
	}
	atFront := api.Table{Classes: classesOf(nil), Accepts: []bool{true, false}, Next: [][]int{{1}, {1}}}
	for _, pattern := range []string{"^" + none + "*", "^" + none + "?$", "^(a" + none + ")*", "^(" + none + "|)$"} {
		wantTableOf(t, pattern, atFront)
	}
}

// TestCompileEveryByte: each byte has a class of its own, and no other byte is in it.
func TestCompileEveryByte(t *testing.T) {
	const signs = "0123456789abcdef"
	for n := 1; n < 256; n++ {
		b := string([]byte{byte(n)})
		pattern := "\\x" + signs[n/16:n/16+1] + signs[n%16:n%16+1]
		wantTableOf(t, pattern, api.Table{Classes: byteClasses(b), Accepts: []bool{false, true}, Next: [][]int{{0, 1}, {0, 1}}})
		wantTableOf(t, "[^"+pattern+"]", api.Table{Classes: byteClasses(b), Accepts: []bool{false, true}, Next: [][]int{{1, 0}, {1, 0}}})
	}
}

// TestCompileManyClasses: a chain of unlike bytes, each with a class of its own, by rising bytes, not as they stand.
func TestCompileManyClasses(t *testing.T) {
	letters := "zyxwvutsrqponmlkjihgfedcbaZYXWVUTSRQPONMLKJIHGFEDCBA9876543210"
	var texts []string
	for i := range letters {
		texts = append(texts, letters[len(letters)-1-i:len(letters)-i])
	}
	table := api.Table{Classes: byteClasses(texts...)}
	many := len(letters)
	for state := range many + 2 {
		row := make([]int, many+1)
		for i := range row {
			row[i] = 1
		}
		// The state 1 is the dead one: behind state 0 the others are numbered one higher than they are long.
		switch {
		case state == 0:
			row[many] = 2
		case state > 1 && state <= many:
			row[many-state+1] = state + 1
		}
		table.Accepts, table.Next = append(table.Accepts, state == many+1), append(table.Next, row)
	}
	wantTableOf(t, "^"+letters, table)
	wantTableOf(t, "^"+letters+"$", table)
}

// wantLeast: of the table no two states and no two classes could be one, and all are numbered as they are met.
func wantLeast(t *testing.T, pattern string, table api.Table) {
	t.Helper()
	rows := make([][256]int, len(table.Next))
	for state, row := range table.Next {
		for b := range 256 {
			rows[state][b] = row[table.Classes[b]]
		}
	}
	for i, marks := range apart(table.Accepts, rows) {
		for j, mark := range marks {
			if mark != (i != j) {
				t.Fatalf("%q: the states %d and %d could be one", pattern, i, j)
			}
		}
	}
	for class := range table.Next[0] {
		for other := range class {
			alike := true
			for _, row := range table.Next {
				alike = alike && row[class] == row[other]
			}
			if alike {
				t.Fatalf("%q: the classes %d and %d could be one", pattern, class, other)
			}
		}
	}
	met := 1
	for state, row := range table.Next {
		if state >= met {
			t.Fatalf("%q: the state %d is not met", pattern, state)
		}
		for _, next := range row {
			if next > met {
				t.Fatalf("%q: the state %d is met ahead of %d", pattern, next, met)
			}
			met = max(met, next+1)
		}
	}
	if table.Start != 0 || met != len(table.Next) {
		t.Fatalf("%q: Start is %d, %d of %d states are met", pattern, table.Start, met, len(table.Next))
	}
}

// TestCompileLeast: of patterns with all kinds of atoms, made by chance.
func TestCompileLeast(t *testing.T) {
	m := maker{rand.New(rand.NewSource(13))}
	compiled := 0
	for range 3000 {
		pattern, _ := m.pattern()
		machine, err, place := Compile(pattern, api.MaxStates)
		if err != api.OK {
			if machine != nil || err != api.ErrLimit || place != 0 {
				t.Errorf("Compile(%q) = %v, %d, %d", pattern, machine, err, place)
			}
			continue
		}
		compiled++
		table, _ := machine.Table()
		wantLeast(t, pattern, table)
		// What Build takes is a table.
		wantTable(t, mustBuild(t, table), table)
		if table.Front != strings.HasPrefix(pattern, "^") || table.Back != (strings.HasSuffix(pattern, "$") && !strings.HasSuffix(pattern, "\\$")) {
			t.Errorf("%q: Front %v, Back %v", pattern, table.Front, table.Back)
		}
	}
	if compiled < 1000 {
		t.Errorf("only %d were compiled", compiled)
	}
}

// TestCompiledMemory: what a compiled machine tells is new memory, and the machine is not changed by it.
func TestCompiledMemory(t *testing.T) {
	for _, pattern := range []string{"", "a", "^ab$", "(a|b)*a(a|b){4}", "\\w+[^\\d]x{3}"} {
		m, twin := mustCompile(t, pattern, 200), mustCompile(t, pattern, 200)
		table, _ := m.Table()
		want := copied(table)
		other, _ := twin.Table()
		grow(table)
		wantTable(t, m, want)
		spoil(table)
		wantTable(t, m, want)
		wantTable(t, twin, want)
		wantSearches(t, m, want)
		wantBytes(t, m, want)
		if !reflect.DeepEqual(other, want) {
			t.Errorf("%q: two machines share a list", pattern)
		}
	}
}
