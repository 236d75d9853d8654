package hasp

import (
	"fmt"
	"math/rand"
	"strings"
	"testing"

	"hasp/api"
)

// maker makes patterns from the grammar, and of each the tree's text that the document asks for.
type maker struct{ *rand.Rand }

func (m maker) pattern() (string, string) {
	text, tree := m.choices(3)
	if m.Intn(4) == 0 {
		text, tree = "^"+text, "^"+tree
	}
	if m.Intn(4) == 0 {
		text, tree = text+"$", tree+"$"
	}
	return text, tree
}

func (m maker) choices(depth int) (string, string) {
	var texts, trees []string
	for range 1 + m.Intn(3)*m.Intn(2) {
		text, tree := m.chain(depth)
		texts, trees = append(texts, text), append(trees, tree)
	}
	if len(trees) == 1 {
		return texts[0], trees[0]
	}
	return strings.Join(texts, "|"), "(" + strings.Join(trees, "|") + ")"
}

func (m maker) chain(depth int) (string, string) {
	n := m.Intn(4)
	text, tree := "", ""
	for range n {
		a, b := m.part(depth)
		text, tree = text+a, tree+b
	}
	switch n {
	case 0:
		return "", "e"
	case 1:
		return text, tree
	}
	return text, "(" + tree + ")"
}

func (m maker) part(depth int) (string, string) {
	text, tree := m.atom(depth)
	for range m.Intn(3) * m.Intn(2) {
		a, b := m.count()
		text, tree = text+a, tree+b
	}
	return text, tree
}

func (m maker) count() (string, string) {
	least := m.Intn(api.MaxRepeat + 1)
	most := least + m.Intn(api.MaxRepeat+1-least)
	switch m.Intn(6) {
	case 0:
		return fmt.Sprintf("{%d}", least), fmt.Sprintf("{%d,%d}", least, least)
	case 1:
		return fmt.Sprintf("{%d,}", least), fmt.Sprintf("{%d,}", least)
	case 2:
		return fmt.Sprintf("{%d,%d}", least, most), fmt.Sprintf("{%d,%d}", least, most)
	}
	sign := string("*+?"[m.Intn(3)])
	return sign, sign
}

func (m maker) atom(depth int) (string, string) {
	kind := m.Intn(6)
	if kind == 0 && depth > 0 {
		text, tree := m.choices(depth - 1)
		return "(" + text + ")", tree
	}
	if kind < 3 {
		return m.class()
	}
	var held [256]bool
	if kind == 3 {
		return m.many(&held), spans(held)
	}
	n := m.Intn(256)
	held[n] = true
	return m.written(n, "\\.[](){}|*+?^$"), spans(held)
}

// many is an escape of many bytes, which are put into held.
func (m maker) many(held *[256]bool) string {
	letter := m.Intn(3)
	members := []string{"0123456789", "0123456789ABCDEFGHIJKLMNOPQRSTUVWXYZ_abcdefghijklmnopqrstuvwxyz", "\t\n\r "}[letter]
	for _, b := range []byte(members) {
		held[b] = true
	}
	return "\\" + "dws"[letter:letter+1]
}

// written is a byte as itself, if it is none of the barred, or as one of its escapes.
func (m maker) written(n int, barred string) string {
	b := string([]byte{byte(n)})
	plain := !strings.Contains(barred, b)
	switch {
	case plain && m.Intn(2) == 0:
		return b
	case n == 9:
		return "\\t"
	case n == 10:
		return "\\n"
	case strings.Contains("-\\.[](){}|*+?^$", b) && m.Intn(2) == 0:
		return "\\" + b
	}
	return fmt.Sprintf("\\x%02x", n)
}

func (m maker) class() (string, string) {
	const barred = "\\[]^-"
	var held [256]bool
	text := ""
	for range 1 + m.Intn(4) {
		low := m.Intn(256)
		high := low + m.Intn(256-low)*m.Intn(2)
		if m.Intn(5) == 0 {
			text += m.many(&held)
			continue
		}
		text += m.written(low, barred)
		if high > low || m.Intn(4) == 0 {
			text += "-" + m.written(high, barred)
		}
		for n := low; n <= high; n++ {
			held[n] = true
		}
	}
	if m.Intn(3) > 0 {
		return "[" + text + "]", spans(held)
	}
	for n := range held {
		held[n] = !held[n]
	}
	return "[^" + text + "]", spans(held)
}

func spans(held [256]bool) string {
	var all []string
	for n := range held {
		if !held[n] || n > 0 && held[n-1] {
			continue
		}
		end := n
		for end < 255 && held[end+1] {
			end++
		}
		if end == n {
			all = append(all, fmt.Sprintf("%02x", n))
		} else {
			all = append(all, fmt.Sprintf("%02x-%02x", n, end))
		}
	}
	return "<" + strings.Join(all, " ") + ">"
}

func TestParseMadePatterns(t *testing.T) {
	m := maker{rand.New(rand.NewSource(1))}
	for range 20000 {
		if text, tree := m.pattern(); len(text) <= api.MaxPattern {
			wantTree(t, text, tree)
		} else {
			wantError(t, text, api.ErrLimit, 0)
		}
	}
}
