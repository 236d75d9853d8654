package syntax

import (
	"strings"
	"testing"

	"hasp/api"
)

func TestReadTree(t *testing.T) {
	p, err, place := Read("^(a|)x{2,}?{3}|$")
	if err != api.OK || place != 0 {
		t.Fatalf("error %d at %d", err, place)
	}
	if !p.Front || !p.Back || len(p.Choices) != 2 || len(p.Choices[0]) != 2 || len(p.Choices[1]) != 0 {
		t.Fatalf("wrong shape: %+v", p)
	}
	group, x := p.Choices[0][0], p.Choices[0][1]
	if len(group.Atom.Group) != 2 || len(group.Counts) != 0 {
		t.Errorf("wrong group: %+v", group)
	}
	if len(x.Atom.Group) != 0 || !x.Atom.Bytes.Has('x') || x.Atom.Bytes.Has('a') {
		t.Errorf("wrong atom: %+v", x.Atom)
	}
	want := []Count{{'{', 2, Endless}, {Sign: '?'}, {'{', 3, 3}}
	if len(x.Counts) != len(want) {
		t.Fatalf("counts %v, want %v", x.Counts, want)
	}
	for i := range want {
		if x.Counts[i] != want[i] {
			t.Errorf("count %d is %v, want %v", i, x.Counts[i], want[i])
		}
	}
}

func TestReadAnswersNothingBesideErrors(t *testing.T) {
	for _, text := range []string{"^a|b{2", "^a$b", strings.Repeat("(", 21) + strings.Repeat(")", 21) + "$", strings.Repeat("a", 201)} {
		p, err, _ := Read(text)
		if err == api.OK || p.Front || p.Back || p.Choices != nil {
			t.Errorf("Read(%q) = %+v, %d", text, p, err)
		}
	}
}

func TestBeginsNumber(t *testing.T) {
	for value := range 400 {
		for least := range api.MaxRepeat + 1 {
			want := false
			for n := least; n <= api.MaxRepeat; n++ {
				want = want || n == value || value > 0 && n/10 == value
			}
			if got := beginsNumber(value, least); got != want {
				t.Errorf("beginsNumber(%d, %d) = %v", value, least, got)
			}
		}
	}
}
