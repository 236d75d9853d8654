package hasp

import (
	"fmt"
	"math/rand"
	"reflect"
	"strings"
	"testing"

	"hasp/api"
)

func tableOfPattern(t *testing.T, pattern string) api.Table {
	t.Helper()
	table, err := mustCompile(t, pattern, api.MaxStates).Table()
	if err != api.OK {
		t.Fatalf("Table: %d", err)
	}
	return table
}

// TestAlike: in each line patterns with the same matches; those of unlike lines differ.
func TestAlike(t *testing.T) {
	for _, ends := range [][2]string{{"", ""}, {"^", ""}, {"", "$"}, {"^", "$"}} {
		var all []api.Table
		for _, line := range []string{
			"a|b b|a [ab] [a-b] (a|b|a) [ba]{1} (a|b){1,1} [^\\x00-`c-\\xff]",
			"xa{2,4} xaa(a(a)?)? xaaa?a? x(aa|aaa|aaaa) xa{2}a{0,2} xaa{1,3}",
			"(ab)*ac a(ba)*c (ab){0,}ac (ab)*(ab)*ac ((ab)+)?ac",
			"x(a*b*)*y x(a|b)*y x[ab]*y x(a+|b)*y x(a*|b)*y x(b*a)*b*y x((a|b)?)*y",
			"x(aa|aaa)*y x(aa+)?y x(|aa+)y x(aa|aaa)*y|x(aaaa)*y",
			"xy(){30}{30} xy x()y (xy){1} xy|xy x{1}{1}y x{0}xy xy{1,1}",
			"x(a|b)(c|d) x(ac|ad|bc|bd) x[ab][cd] xa[cd]|xb[cd] x(b|a)c|x(a|b)d",
			"\\d [0-9] [0-45-9] [\\d] 0|[1-9] [5-90-4]",
			"[^\\x00-\\xff] a[^\\x00-\\xff] [^\\x00-\\xff]+",
			"a{30}{2} a{30}a{30} a{2}{30} (a{15}){4} a{10}{2}{3}",
		} {
			patterns := strings.Fields(line)
			want := tableOfPattern(t, ends[0]+patterns[0]+ends[1])
			for _, pattern := range patterns {
				if got := tableOfPattern(t, ends[0]+pattern+ends[1]); !reflect.DeepEqual(got, want) {
					t.Errorf("%q has the table %v, %q %v", pattern, got, patterns[0], want)
				}
			}
			for _, other := range all {
				if reflect.DeepEqual(want, other) {
					t.Errorf("%q has another line's table", patterns[0])
				}
			}
			all = append(all, want)
		}
	}
}

// TestAlikeButEnds: the same choices with unlike `^` and `$` never have the same table.
func TestAlikeButEnds(t *testing.T) {
	for _, choices := range []string{"", "a", "(a|b)*", "[\\x00-\\xff]*", "[^\\x00-\\xff]", "a{3}"} {
		plain, front := tableOfPattern(t, choices), tableOfPattern(t, "^"+choices)
		back, both := tableOfPattern(t, choices+"$"), tableOfPattern(t, "^"+choices+"$")
		if plain.Front || plain.Back || !front.Front || front.Back || back.Front || !back.Back || !both.Front || !both.Back {
			t.Errorf("%q: wrong Front or Back", choices)
		}
		// But for Back, `$` is not looked at.
		back.Back, both.Back = false, false
		if !reflect.DeepEqual(plain, back) || !reflect.DeepEqual(front, both) {
			t.Errorf("%q has another table with `$`", choices)
		}
	}
}

// rewritten makes another model with the same language.
func (m modeller) rewritten(x model) model {
	kids := make([]model, len(x.kids))
	for i, kid := range x.kids {
		kids[i] = m.rewritten(kid)
	}
	x.kids = kids
	switch x.kind {
	case isChoice:
		m.Shuffle(len(kids), func(i, j int) { kids[i], kids[j] = kids[j], kids[i] })
	case isCount:
		x = m.recounted(x)
	case isChain:
		if len(kids) > 2 && m.Intn(2) == 0 {
			x = chainOf(kids[0], chainOf(kids[1:]...))
		}
	}
	switch m.Intn(16) {
	case 0:
		return choiceOf(x, x)
	case 1:
		return chainOf(x, timesOf(plain("c"), 0, 0))
	case 2:
		return choiceOf(chainOf(noByte(), plain("a")), x)
	case 3:
		return timesOf(x, 1, 1)
	case 4:
		return chainOf(countOf(chainOf(), "*", 0, -1), x)
	}
	return x
}

// recounted writes a count in another way.
func (m modeller) recounted(x model) model {
	kid := x.kids[0]
	switch {
	case m.Intn(3) == 0:
		return x
	case x.most < 0 && x.least == 0:
		return []model{maybeOf(plusOf(kid)), timesOf(kid, 0, -1), starOf(starOf(kid)), choiceOf(chainOf(), plusOf(kid)), starOf(kid)}[m.Intn(5)]
	case x.most < 0:
		return []model{chainOf(timesOf(kid, x.least, x.least), starOf(kid)), chainOf(timesOf(kid, x.least-1, x.least-1), plusOf(kid)), chainOf(starOf(kid), timesOf(kid, x.least, -1))}[m.Intn(3)]
	case x.most == x.least && x.least > 1:
		return chainOf(kid, timesOf(kid, x.least-1, x.least-1))
	case x.most > x.least:
		return []model{chainOf(timesOf(kid, x.least, x.least), timesOf(maybeOf(kid), x.most-x.least, x.most-x.least)), choiceOf(timesOf(kid, x.least, x.most-1), timesOf(kid, x.most, x.most))}[m.Intn(2)]
	}
	return x
}

// TestAlikeRewritten: patterns made by chance, and written in other ways.
func TestAlikeRewritten(t *testing.T) {
	m := modeller{rand.New(rand.NewSource(14))}
	alike := 0
	for range 3000 {
		w := m.whole()
		other := wholeModel{m.rewritten(w.model), w.front, w.back}
		one, err, _ := Compile(w.written(), api.MaxStates)
		two, err2, _ := Compile(other.written(), api.MaxStates)
		if err != api.OK || err2 != api.OK {
			if err != api.OK && err != api.ErrLimit || err2 != api.OK && err2 != api.ErrLimit {
				t.Errorf("%q: %d, %q: %d", w.written(), err, other.written(), err2)
			}
			continue
		}
		if w.written() != other.written() {
			alike++
		}
		want, _ := one.Table()
		if got, _ := two.Table(); !reflect.DeepEqual(got, want) {
			t.Fatalf("%q has the table %v, %q %v", w.written(), want, other.written(), got)
		}
	}
	if alike < 1000 {
		t.Errorf("only %d pairs were written in unlike ways", alike)
	}
}

// TestAlikeAsFound: patterns have the same table, if and only if they find the same ends.
func TestAlikeAsFound(t *testing.T) {
	texts := []string{""}
	for at := 0; at < 364; at++ {
		texts = append(texts, texts[at]+"a", texts[at]+"b", texts[at]+"x")
	}
	for _, front := range []bool{false, true} {
		tableOfEnds, endsOfTable := map[string]string{}, map[string]string{}
		for _, x := range smallModels() {
			w := wholeModel{model: x, front: front}
			ends := w.allEnds(texts)
			table := fmt.Sprint(tableOfPattern(t, w.written()))
			if other, ok := tableOfEnds[ends]; ok && other != table {
				t.Errorf("%q has another table than one that finds the same", w.written())
			}
			if other, ok := endsOfTable[table]; ok && other != ends {
				t.Errorf("%q has the table of one that finds something else", w.written())
			}
			tableOfEnds[ends], endsOfTable[table] = table, ends
		}
		if many := len(tableOfEnds); many < 20 {
			t.Errorf("only %d unlike patterns", many)
		}
	}
}

// smallModels are so small that texts of six bytes tell each two apart that are unlike.
func smallModels() []model {
	models := []model{chainOf(), plain("a"), plain("b"), noByte()}
	from := 0
	for range 2 {
		to := len(models)
		for _, x := range models[from:to] {
			models = append(models, starOf(x), maybeOf(x), timesOf(x, 2, 2), chainOf(x, plain("a")), choiceOf(x, plain("b")), chainOf(plain("b"), x))
		}
		from = to
	}
	return models
}

// allEnds writes all places where matches end in the texts.
func (w wholeModel) allEnds(texts []string) string {
	var all []byte
	for _, text := range texts {
		from := uint64(1)<<(len(text)+1) - 1
		if w.front {
			from = 1
		}
		all = append(all, byte(w.ends(text, from)))
	}
	return string(all)
}
