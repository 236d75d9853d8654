package hasp

import (
	"math"
	"math/rand"
	"strings"
	"sync"
	"testing"

	"hasp/api"
)

func mustCompile(t *testing.T, pattern string, limit int) *Machine {
	t.Helper()
	m, err, place := Compile(pattern, limit)
	if m == nil || err != api.OK || place != 0 {
		t.Fatalf("Compile(%q, %d) = %v, %d, %d", pattern, limit, m, err, place)
	}
	return m
}

func wantNotCompiled(t *testing.T, pattern string, limit int, want api.Errno, at int) {
	t.Helper()
	if m, err, place := Compile(pattern, limit); m != nil || err != want || place != at {
		t.Errorf("Compile(%.80q, %d) = %v, %d, %d, want error %d at %d", pattern, limit, m, err, place, want, at)
	}
}

// TestCompileNoLimit: a limit that is none is told ahead of all that may be wrong with the pattern.
func TestCompileNoLimit(t *testing.T) {
	limits := append([]int{0, -1, -2, -200, 201, 202, 255, 1000, math.MaxInt - 1}, farNumbers...)
	patterns := []string{"", "a", "^a$", "a)", "a{31}", "\\", "(", strings.Repeat("a", 65), strings.Repeat("a", 201), nested(21), "(a|b)*a(a|b){29}"}
	for _, limit := range limits {
		for _, pattern := range patterns {
			wantNotCompiled(t, pattern, limit, api.ErrArg, 0)
		}
	}
	for limit := 1; limit <= api.MaxStates; limit++ {
		mustCompile(t, "", limit)
	}
}

// TestCompileNoPattern: what is no pattern has its place, whatever the limit, and ahead of its size.
func TestCompileNoPattern(t *testing.T) {
	for _, c := range []fault{
		{"*a", 0}, {"a)", 1}, {"(a", 2}, {"a^", 1}, {"a$b", 2}, {"(a$)", 2}, {"[]", 1}, {"[b-a]", 3}, {"a{2", 3}, {"a{31}", 3}, {"a{3,2}", 5},
		{"a{12,1}", 6}, {"a{05}", 3}, {"\\q", 1}, {"\\x4", 3}, {"[a-\\d]", 4}, {"[\\d-a]", 3},
		{"(((a{30}){30}){30}){30}{30})", 27}, {strings.Repeat("a", 65) + ")", 65}, {strings.Repeat("a", 199) + "(", 200}, {nested(21) + ")", 42}, {"(a|b)*a(a|b){29}{31}", 18},
	} {
		for _, limit := range []int{1, 2, 199, 200} {
			wantNotCompiled(t, c.pattern, limit, api.ErrSyntax, c.at)
		}
	}
}

// TestCompileFaultsOfParse: all that Parse refuses is refused with the same error, at the same place.
func TestCompileFaultsOfParse(t *testing.T) {
	r := rand.New(rand.NewSource(11))
	const signs = "ab\\.[](){}|*+?^$,-0129xdn"
	refused := 0
	for range 20000 {
		text := make([]byte, r.Intn(9))
		for i := range text {
			text[i] = signs[r.Intn(len(signs))]
		}
		_, err, place := Parse(string(text))
		if err == api.OK {
			if m, err, place := Compile(string(text), 200); (m == nil) != (err == api.ErrLimit) || err != api.OK && err != api.ErrLimit || place != 0 {
				t.Errorf("Compile(%q) = %v, %d, %d", text, m, err, place)
			}
			continue
		}
		refused++
		wantNotCompiled(t, string(text), 1+r.Intn(200), err, place)
	}
	if refused < 1000 {
		t.Errorf("only %d were refused", refused)
	}
}

func TestCompileLimitsOfParse(t *testing.T) {
	for _, limit := range []int{1, 200} {
		wantNotCompiled(t, strings.Repeat("(", 201), limit, api.ErrLimit, 0)
		wantNotCompiled(t, strings.Repeat("a{0}", 50)+"a", limit, api.ErrLimit, 0)
		wantNotCompiled(t, nested(21), limit, api.ErrLimit, 0)
		wantNotCompiled(t, nested(100), limit, api.ErrLimit, 0)
		mustCompile(t, nested(20), limit)
		mustCompile(t, strings.Repeat("a{0}", 50), limit)
	}
}

// blocked puts a pattern behind a spot for no byte: its spots are counted, but never come to, so that the search has hardly a state.
func blocked(choices string) string { return "[^\\x00-\\xff](" + choices + ")" }

func wantFewSpots(t *testing.T, choices string) {
	t.Helper()
	mustCompile(t, blocked(choices), 1)
	mustCompile(t, "^"+blocked(choices)+"$", 2)
}

func wantManySpots(t *testing.T, choices string) {
	t.Helper()
	wantNotCompiled(t, blocked(choices), 200, api.ErrLimit, 0)
	wantNotCompiled(t, "^"+blocked(choices)+"$", 200, api.ErrLimit, 0)
}

// TestCompileSpots: each of these has 63 spots, so one may be ahead of it, and no two.
func TestCompileSpots(t *testing.T) {
	for _, x := range []string{
		strings.Repeat("a", 63), "a{30}a{30}a{3}", "(a{9}){7}", "a{7}{9}", "a{3}{3}{7}", "((a{3}){3}){7}", "(ab){30}aba",
		"(a|b){30}(a|b)c", "a{0,9}{7}", "a{0,21}{3}", "a{1,2}{30}a{0,3}", "a{2,}{0,21}", "a{8,}{6,}", "a{0,}{6,}{8,}", "a{29,}a{29,}a{2,}",
		"(a*b+c?){21}", "a*{21}{3}", "a{7}+{9}?", "([^\\x00-\\xff]{9}){7}", "(.\\d[a-c]){21}", "(a|b|c){21}", "((a|bc){0,3}d?){6}abc",
		"(a{30}){0}(b{9}){7}", "(((a{30}){30}){30}){0}b{9}{7}", "((a{30}{30}){0}|bc{0}){30}{2}b{3}", "a{0}{30}b{30}{2}c{3}",
		"(){30}{30}{30}b{9}{7}", "(a{0}|(){30}b){30}b{30}b{3}", "a{30}{30}{0,0}b{20,21}{0,3}",
	} {
		for _, same := range []string{
			x, x + "|", "|" + x, "()" + x, "(a){0}" + x, x + "a{0,0}", x + "|(c){0}*", "(){30}{30}" + x,
			"(" + x + ")*", "(" + x + ")+", "(" + x + ")?", "(" + x + "){1}", "(" + x + "){0,1}", "(" + x + "){0,}", "(" + x + "){0}", "(" + x + "){0}{30}",
		} {
			wantFewSpots(t, same)
		}
		for _, more := range []string{
			x + "a", "a" + x, x + "|b", "." + x, x + "[^\\x00-\\xff]", x + "(c)*", x + "c?", "\\n+" + x, x + "b{1}", x + "b{0,1}", x + "b{0,}",
			"(" + x + "){2}", "(" + x + "){0,2}", "(" + x + "){1,}", "(" + x + "){30}", "(" + x + "){0}|" + x + "a",
		} {
			wantManySpots(t, more)
		}
	}
}

// TestCompileSpotsComeTo: as many spots as may be, all of them come to.
func TestCompileSpotsComeTo(t *testing.T) {
	for _, full := range []string{"a{30}a{30}a{4}", "(a{8}){8}", "a{8}{8}", strings.Repeat("a", 64), "(a{1}a){16}{2}", "a{2}{2}{2}{2}{2}{2}"} {
		m := mustCompile(t, full, 65)
		wantEnds(t, m, strings.Repeat("a", 63), -1, -1)
		wantEnds(t, m, "b"+strings.Repeat("a", 66), 65, 67)
		mustCompile(t, "^"+full+"$", 66)
		wantNotCompiled(t, full, 64, api.ErrLimit, 0)
		wantNotCompiled(t, "^"+full+"$", 65, api.ErrLimit, 0)
		wantNotCompiled(t, full+"a", 200, api.ErrLimit, 0)
		wantNotCompiled(t, "^a"+full+"$", 200, api.ErrLimit, 0)
	}
}

// TestCompileCountsOfCounts: numbers that no int holds are too many too, also those that would come out as 0; and 0 times too many is none.
func TestCompileCountsOfCounts(t *testing.T) {
	for many := 2; many <= 45; many++ {
		counts := strings.Repeat("{30}", many)
		wantNotCompiled(t, "a"+counts, 200, api.ErrLimit, 0)
		wantNotCompiled(t, "(a|b)"+counts, 200, api.ErrLimit, 0)
		table, _ := mustCompile(t, "", 1).Table()
		wantTable(t, mustCompile(t, "a"+counts+"{0}", 1), table)
		wantTable(t, mustCompile(t, "a{0}"+counts, 1), table)
		wantTable(t, mustCompile(t, "()"+counts, 1), table)
		wantTable(t, mustCompile(t, "(|()||a{0})"+counts, 1), table)
		table, _ = mustCompile(t, "b", 2).Table()
		wantTable(t, mustCompile(t, "(a"+counts+"){0}b", 2), table)
		wantTable(t, mustCompile(t, "()"+counts+"b", 2), table)
	}
	wantNotCompiled(t, "a"+strings.Repeat("{2}", 64), 200, api.ErrLimit, 0)
	wantNotCompiled(t, "a"+strings.Repeat("{16}", 16), 200, api.ErrLimit, 0)
	wantNotCompiled(t, "a"+strings.Repeat("{15,}", 16), 200, api.ErrLimit, 0)
	wantNotCompiled(t, "a"+strings.Repeat("{0,16}", 32), 200, api.ErrLimit, 0)
	mustCompile(t, strings.Repeat("(", 20)+strings.Repeat("){30}{30}", 20), 1)
	mustCompile(t, strings.Repeat("(", 20)+"a"+strings.Repeat("){30}", 20)+"{0}", 1)
	mustCompile(t, strings.Repeat("(", 20)+"a{0}"+strings.Repeat("){1,30}", 20), 1)
	wantNotCompiled(t, strings.Repeat("(", 20)+"a"+strings.Repeat("){30}", 20), 200, api.ErrLimit, 0)
	mustCompile(t, "a"+strings.Repeat("{1}", 66), 2)
	mustCompile(t, "a"+strings.Repeat("*+?", 66), 1)
}

// TestCompileStates: the search of each pattern comes to just so many states; its table has so many, or fewer.
func TestCompileStates(t *testing.T) {
	const none = "[^\\x00-\\xff]"
	const rounds = "((a{11})*|(a{18})*)" // 198 states go round
	for _, c := range []struct {
		pattern       string
		states, least int
	}{
		{"", 1, 1}, {"$", 1, 1}, {"^", 2, 2}, {"^$", 2, 2}, {"a", 2, 2}, {"a$", 2, 2}, {"^a", 3, 3}, {"aa", 3, 3},
		{"a*", 1, 1}, {"a?", 1, 1}, {"^a*", 2, 2}, {"^a?", 3, 3}, {"a+", 2, 2}, {"a{1,}", 2, 2}, {"^a+", 3, 3}, {"^a{1,}", 3, 3}, {"^a{2,}", 4, 4},
		{"a{0,3}", 3, 1}, {"a?a?a?", 1, 1}, {"(a(a(a)?)?)?", 3, 1}, {"^a{0,3}", 5, 5}, {"a{0,}", 1, 1}, {"a{1}", 2, 2}, {"a{1,2}", 2, 2}, {"^a{1,2}", 4, 4}, {"(aa){0,2}", 4, 1},
		{"(a*)*", 1, 1}, {"(a*b*)*c", 2, 2}, {"^(a*b*)*c$", 3, 3}, {"^(a|b)*$", 2, 2}, {"a|ab", 3, 3}, {"ab|b", 3, 2},
		{"^(ab|ac)", 4, 4}, {"^(ab|cb)", 5, 4}, {"^(a|aa)", 4, 4}, {"(a|b)*a(a|b){6}", 128, 128}, {"^(a|b)*a(a|b){6}", 129, 129},
		{none, 1, 1}, {"^" + none, 2, 1}, {"^a" + none, 3, 1}, {"a" + none + "b", 2, 1}, {"^" + none + "a*", 2, 1}, {none + "?", 1, 1}, {"^" + none + "*", 2, 2},
		{"a" + none + "|b", 3, 2}, {"^a(" + none + "|b)", 4, 4}, {"^a{30}a{30}a{3}" + none, 65, 1}, {"a{30}a{30}a{4}", 65, 65},
		{"^" + rounds, 199, 199}, {"^b?" + rounds, 200, 200}, {"^b?b?" + rounds, 201, 201}, {"^b{0,2}" + rounds, 201, 201}, {"^(b|c)?" + rounds, 200, 200},
		{"^" + rounds + none, 199, 1}, {"^b?" + rounds + none, 200, 1}, {"^b{0,2}" + rounds + none, 201, 1}, {"^" + rounds + "(b{2}|" + none + ")", 201, 201},
	} {
		wantStates(t, c.pattern, c.states, c.least)
	}
}

// wantStates: all limits below states are too low, all others are not, and the table is the same with each.
func wantStates(t *testing.T, pattern string, states, least int) {
	t.Helper()
	for limit := 1; limit < min(states, api.MaxStates+1); limit++ {
		wantNotCompiled(t, pattern, limit, api.ErrLimit, 0)
	}
	if states > api.MaxStates {
		return
	}
	table, _ := mustCompile(t, pattern, states).Table()
	if len(table.Next) != least {
		t.Errorf("the table of %q has %d states, want %d", pattern, len(table.Next), least)
	}
	for limit := states; limit <= api.MaxStates; limit += 1 + limit/5 {
		wantTable(t, mustCompile(t, pattern, limit), table)
	}
	wantTable(t, mustCompile(t, pattern, api.MaxStates), table)
}

// TestCompileEndsSoon: searches that would come to very many states are given up.
func TestCompileEndsSoon(t *testing.T) {
	for _, pattern := range []string{"(a|b)*a(a|b){7}", "(a|b)*a(a|b){29}", "^(a|b)*a(a|b){30}", ".*a.{30}.{30}", "(a.{20}|b.{20}|c){1,}", "^(.*a.*b.{30})$"} {
		wantNotCompiled(t, pattern, 200, api.ErrLimit, 0)
		wantNotCompiled(t, pattern, 1, api.ErrLimit, 0)
	}
}

// TestCompileAtOnce: calls don't disturb one another, and each answers the same again.
func TestCompileAtOnce(t *testing.T) {
	patterns := []string{"a", "^a", "(a|b)*a(a|b){5}", "^(a*b*)*$", "\\w+@\\w+", "[^\\x00-\\xff]"}
	var want []api.Table
	for _, pattern := range patterns {
		table, _ := mustCompile(t, pattern, 200).Table()
		want = append(want, table)
	}
	var group sync.WaitGroup
	for range 8 {
		group.Go(func() {
			for range 5 {
				for i, pattern := range patterns {
					m, err, _ := Compile(pattern, 200)
					if err != api.OK {
						t.Errorf("Compile(%q): %d", pattern, err)
						return
					}
					wantTable(t, m, want[i])
				}
			}
		})
	}
	group.Wait()
}
