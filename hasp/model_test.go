package hasp

import (
	"fmt"
	"math/rand"
	"strings"
)

// model is a pattern's choices in the tests' own words.
type model struct {
	kind        modelKind
	text        string    // of an atom: how it is written
	held        [256]bool // of an atom: the bytes
	kids        []model
	sign        string // of a count: how it is written
	least, most int    // of a count; most is -1, if there is none
}

type modelKind int

const (
	isAtom modelKind = iota
	isChain
	isChoice
	isCount
)

func chainOf(kids ...model) model  { return model{kind: isChain, kids: kids} }
func choiceOf(kids ...model) model { return model{kind: isChoice, kids: kids} }

func countOf(kid model, sign string, least, most int) model {
	return model{kind: isCount, kids: []model{kid}, sign: sign, least: least, most: most}
}

func starOf(kid model) model  { return countOf(kid, "*", 0, -1) }
func plusOf(kid model) model  { return countOf(kid, "+", 1, -1) }
func maybeOf(kid model) model { return countOf(kid, "?", 0, 1) }

func timesOf(kid model, least, most int) model {
	switch most {
	case least:
		return countOf(kid, fmt.Sprintf("{%d}", least), least, most)
	case -1:
		return countOf(kid, fmt.Sprintf("{%d,}", least), least, most)
	}
	return countOf(kid, fmt.Sprintf("{%d,%d}", least, most), least, most)
}

// atomOf is an atom that is written so and stands for the bytes of members, or for all others.
func atomOf(text, members string, others bool) model {
	m := model{kind: isAtom, text: text}
	for b := range m.held {
		m.held[b] = strings.Contains(members, string([]byte{byte(b)})) != others
	}
	return m
}

// plain is a plain byte.
func plain(b string) model { return atomOf(b, b, false) }

// noByte is an atom that stands for none.
func noByte() model { return atomOf("[^\\x00-\\xff]", "", false) }

// written tells the pattern of a model.
func (m model) written() string {
	var texts []string
	switch m.kind {
	case isChain:
		for _, kid := range m.kids {
			texts = append(texts, kid.inChain())
		}
		return strings.Join(texts, "")
	case isChoice:
		for _, kid := range m.kids {
			texts = append(texts, kid.inChoice())
		}
		return strings.Join(texts, "|")
	case isCount:
		// What is counted may be a count itself: the one that stands first is the inner one.
		return m.kids[0].inChain() + m.sign
	}
	return m.text
}

func (m model) inChoice() string {
	if m.kind == isChoice {
		return "(" + m.written() + ")"
	}
	return m.written()
}

func (m model) inChain() string {
	if m.kind == isChain || m.kind == isChoice {
		return "(" + m.written() + ")"
	}
	return m.written()
}

// ends tells at which places pieces of a text end that are in the language and begin at one of the places of from: bit by bit.
func (m model) ends(text string, from uint64) uint64 {
	switch m.kind {
	case isChain:
		for _, kid := range m.kids {
			from = kid.ends(text, from)
		}
		return from
	case isChoice:
		to := uint64(0)
		for _, kid := range m.kids {
			to |= kid.ends(text, from)
		}
		return to
	case isCount:
		return m.endsOfCount(text, from)
	}
	to := uint64(0)
	for at := range len(text) {
		if from>>at&1 == 1 && m.held[text[at]] {
			to |= 2 << at
		}
	}
	return to
}

func (m model) endsOfCount(text string, from uint64) uint64 {
	for range m.least {
		from = m.kids[0].ends(text, from)
	}
	to := from
	if m.most >= 0 {
		for range m.most - m.least {
			from = m.kids[0].ends(text, from)
			to |= from
		}
		return to
	}
	for {
		more := to | m.kids[0].ends(text, to)
		if more == to {
			return to
		}
		to = more
	}
}

// wholeModel is a whole pattern.
type wholeModel struct {
	model
	front, back bool
}

func (w wholeModel) written() string {
	text := w.model.written()
	if w.front {
		text = "^" + text
	}
	if w.back {
		text += "$"
	}
	return text
}

// found tells the first and the last place where a match ends: a match is a piece in the language, where `^` and `$` let it be.
func (w wholeModel) found(text string) (int, int) {
	from := uint64(1)<<(len(text)+1) - 1
	if w.front {
		from = 1
	}
	first, last := -1, -1
	ends := w.ends(text, from)
	for at := 0; at <= len(text); at++ {
		if ends>>at&1 == 0 || w.back && at < len(text) {
			continue
		}
		if last = at; first < 0 {
			first = at
		}
	}
	return first, last
}

// modeller makes models of a few bytes, so that their parts meet one another often.
type modeller struct{ *rand.Rand }

func (m modeller) whole() wholeModel {
	return wholeModel{chainOf(m.several(2+m.Intn(4), 1+m.Intn(3))...), m.Intn(2) == 0, m.Intn(3) == 0}
}

func (m modeller) some(depth int) model {
	if depth == 0 {
		return m.atom()
	}
	switch m.Intn(8) {
	case 0, 1:
		return m.atom()
	case 2, 3:
		return chainOf(m.several(depth, 0)...)
	case 4, 5:
		return choiceOf(m.several(depth, 1)...)
	}
	return m.count(m.some(depth - 1))
}

// several makes at least so many models, and at most three more.
func (m modeller) several(depth, least int) []model {
	var all []model
	for range least + m.Intn(4) {
		all = append(all, m.some(depth-1))
	}
	return all
}

func (m modeller) count(kid model) model {
	least := m.Intn(4)
	switch m.Intn(6) {
	case 0:
		return starOf(kid)
	case 1:
		return plusOf(kid)
	case 2:
		return maybeOf(kid)
	case 3:
		return timesOf(kid, least, -1)
	case 4:
		return timesOf(kid, least, least)
	}
	return timesOf(kid, least, least+m.Intn(4))
}

func (m modeller) atom() model {
	switch m.Intn(20) {
	case 0:
		return atomOf("[ab]", "ab", false)
	case 1:
		return atomOf(".", "\n", true)
	case 2:
		return atomOf("[^a]", "a", true)
	case 3:
		return atomOf("\\n", "\n", false)
	case 4:
		return noByte()
	case 5:
		return atomOf("[^\\x00b]", "\x00b", true)
	case 6:
		return atomOf("[b-d\\xff]", "bcd\xff", false)
	}
	return plain([]string{"a", "a", "b", "b", "c"}[m.Intn(5)])
}

// text makes a text of those bytes, and of a few others.
func (m modeller) text() string {
	text := make([]byte, m.Intn(12))
	for i := range text {
		text[i] = "aaaaabbbbbccd\nx\x00\xff"[m.Intn(17)]
	}
	return string(text)
}
