package hasp

import (
	"regexp"
	"strconv"
	"strings"
	"testing"

	"hasp/api"
)

// The grammar once more, by rewriting: it knows whole patterns alone, nothing of places.
const (
	oneByte  = `(?:\\[\\.\[\](){}|*+?^$nt-]|\\x[0-9a-f]{2}|[^\\\[\]^-])`
	oneItem  = `(?:(` + oneByte + `)-(` + oneByte + `)|` + oneByte + `|\\[dws])`
	oneClass = `\[\^?` + oneItem + `+\]`
	chains   = `(?:AC*)*(?:\|(?:AC*)*)*`
)

var (
	itemForm  = regexp.MustCompile(oneItem)
	classForm = regexp.MustCompile(`(?s)^` + oneClass)
	atomForm  = regexp.MustCompile(`(?s)^(?:[^\\.\[\](){}|*+?^$]|\.|\\[\\.\[\](){}|*+?^$ntdws-]|\\x[0-9a-f]{2})`)
	countForm = regexp.MustCompile(`^(?:[*+?]|\{(0|[1-9][0-9]?)(?:(,)(0|[1-9][0-9]?)?)?\})`)
	groupForm = regexp.MustCompile(`\(` + chains + `\)`)
	wholeForm = regexp.MustCompile(`^\^?` + chains + `\$?$`)
)

func byteOf(written string) int {
	switch {
	case written == `\n`:
		return 10
	case written == `\t`:
		return 9
	case strings.HasPrefix(written, `\x`):
		n, _ := strconv.ParseInt(written[2:], 16, 32)
		return int(n)
	}
	return int(written[len(written)-1])
}

func risingClass(class string) bool {
	body := strings.TrimPrefix(class[1:len(class)-1], "^")
	for _, m := range itemForm.FindAllStringSubmatch(body, -1) {
		if m[1] != "" && byteOf(m[2]) < byteOf(m[1]) {
			return false
		}
	}
	return true
}

func fittingCount(m []string) bool {
	least, _ := strconv.Atoi(m[1])
	most, err := strconv.Atoi(m[3])
	if err != nil {
		most = least
	}
	return least <= most && most <= api.MaxRepeat && least <= api.MaxRepeat
}

// oneToken tells how many bytes the token at the beginning has, and the letter for it; 0, if there is none.
func oneToken(text string) (int, string) {
	if strings.IndexByte("()|^$", text[0]) >= 0 {
		return 1, text[:1]
	}
	if m := classForm.FindString(text); m != "" && risingClass(m) {
		return len(m), "A"
	}
	if m := atomForm.FindString(text); m != "" {
		return len(m), "A"
	}
	if m := countForm.FindStringSubmatch(text); m != nil && fittingCount(m) {
		return len(m[0]), "C"
	}
	return 0, ""
}

func isPattern(text string) bool {
	letters := ""
	for text != "" {
		n, letter := oneToken(text)
		if n == 0 {
			return false
		}
		letters += letter
		text = text[n:]
	}
	for {
		fewer := groupForm.ReplaceAllString(letters, "A")
		if fewer == letters {
			return wholeForm.MatchString(letters)
		}
		letters = fewer
	}
}

// endings finish whatever atom or count is begun, if it can be finished at all.
var endings = []string{"", "}", "0}", "5}", "9}", "]", "a]", "~]", "n", "f", "ff", "f]", "ff]", "xff]"}

func beginsPattern(text string) bool {
	for open := range strings.Count(text, "(") + 1 {
		for _, ending := range endings {
			if isPattern(text + ending + strings.Repeat(")", open)) {
				return true
			}
		}
	}
	return false
}

// walk goes on from a beginning of patterns, by all texts of so many further letters.
func walk(t *testing.T, text, letters string, further int) {
	if isPattern(text) {
		if tree, err, place := Parse(text); tree == "" || err != api.OK || place != 0 {
			t.Errorf("Parse(%q) = %q, %d, %d, but it is a pattern", text, tree, err, place)
		}
	} else {
		wantError(t, text, api.ErrSyntax, len(text))
	}
	if further == 0 {
		return
	}
	for i := range len(letters) {
		longer := text + letters[i:i+1]
		if beginsPattern(longer) {
			walk(t, longer, letters, further-1)
			continue
		}
		for _, rest := range []string{"", "a", "]", ")", "}", "0}"} {
			wantError(t, longer+rest, api.ErrSyntax, len(text))
		}
	}
}

// TestParsePlaces holds the place of each fault against the longest beginning that the grammar above can finish.
func TestParsePlaces(t *testing.T) {
	const letters = `a^$|*?(){}[]\-.,0139nxdqz`
	walk(t, "", letters, 3)
	for _, begun := range []string{"(", "^", "a|", "(b|", "(a)", "a$", "a{", "a{1", "a{2,", "a{12,", "a{25,", "a{29,", "a{30,", "a*", "[", "[^", "[b", "[b-", "[9-", "[\\d", "[9-\\", "[\\x3a-\\x", "[a-\\x", "[\\xff-\\x", "\\x", "([a-c]", "a{3}"} {
		walk(t, begun, letters+"2456789bcef", 2)
	}
}
