package least

import (
	"math/rand"
	"reflect"
	"testing"

	"hasp/api"
)

// classes makes Classes of the first bytes; all others have the class of the last one.
func classes(first ...byte) string {
	b := make([]byte, 256)
	for i := range b {
		b[i] = first[min(i, len(first)-1)]
	}
	return string(b)
}

func want(t *testing.T, what string, from, to api.Table) {
	t.Helper()
	if got := Table(from); !reflect.DeepEqual(got, to) {
		t.Errorf("%s: %v, want %v", what, got, to)
	}
	if got := Table(to); !reflect.DeepEqual(got, to) {
		t.Errorf("%s: what is the least becomes %v", what, got)
	}
}

func TestTable(t *testing.T) {
	want(t, "states that are one",
		api.Table{Front: true, Classes: classes(0, 1), Accepts: []bool{false, true, true}, Next: [][]int{{1, 2}, {0, 1}, {0, 2}}},
		api.Table{Front: true, Classes: classes(0, 1), Accepts: []bool{false, true}, Next: [][]int{{1, 1}, {0, 1}}})
	want(t, "classes that are one, once states are",
		api.Table{Back: true, Classes: classes(0, 1, 2), Accepts: []bool{false, true, true}, Next: [][]int{{1, 2, 0}, {2, 1, 0}, {1, 1, 0}}},
		api.Table{Back: true, Classes: classes(0, 0, 1), Accepts: []bool{false, true}, Next: [][]int{{1, 0}, {1, 0}}})
	want(t, "all accept",
		api.Table{Classes: classes(0, 1, 2), Accepts: []bool{true, true}, Next: [][]int{{0, 1, 0}, {1, 0, 1}}},
		api.Table{Classes: classes(0), Accepts: []bool{true}, Next: [][]int{{0}}})
	want(t, "another start, and states that are met otherwise",
		api.Table{Start: 2, Classes: classes(0, 1), Accepts: []bool{true, false, false}, Next: [][]int{{2, 1}, {0, 0}, {1, 0}}},
		api.Table{Classes: classes(0, 1), Accepts: []bool{false, false, true}, Next: [][]int{{1, 2}, {2, 2}, {0, 1}}})
}

// TestTableSplitsLate: states of a long chain differ by what is far ahead alone.
func TestTableSplitsLate(t *testing.T) {
	chain := api.Table{Classes: classes(0)}
	for i := range api.MaxStates {
		chain.Accepts = append(chain.Accepts, i == api.MaxStates-1)
		chain.Next = append(chain.Next, []int{min(i+1, api.MaxStates-1)})
	}
	want(t, "a chain", chain, chain)
}

// ends tells whether the state behind a text accepts.
func ends(t api.Table, text []byte) bool {
	state := t.Start
	for _, b := range text {
		state = t.Next[state][t.Classes[b]]
	}
	return t.Accepts[state]
}

// TestTableKnowsTheSame: of tables made by chance the least one accepts the same texts, and is its own least.
func TestTableKnowsTheSame(t *testing.T) {
	r := rand.New(rand.NewSource(1))
	for range 500 {
		from := api.Table{Classes: classes(0, 1, 2)}
		states := 1 + r.Intn(8)
		for i := range states {
			from.Accepts = append(from.Accepts, r.Intn(3) == 0)
			// By the first class each state is come to.
			from.Next = append(from.Next, []int{(i + 1) % states, r.Intn(states), r.Intn(states)})
		}
		to := Table(from)
		if len(to.Next) > states || to.Start != 0 {
			t.Fatalf("%v becomes %v", from, to)
		}
		for range 50 {
			text := make([]byte, r.Intn(12))
			for i := range text {
				text[i] = byte(r.Intn(4))
			}
			if ends(from, text) != ends(to, text) {
				t.Fatalf("%v becomes %v, which ends otherwise with %v", from, to, text)
			}
		}
		want(t, "again", to, to)
	}
}
