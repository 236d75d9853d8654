package hasp

import (
	"fmt"
	"strings"
	"testing"

	"hasp/api"
)

func wantTree(t *testing.T, pattern, tree string) {
	t.Helper()
	if got, err, place := Parse(pattern); got != tree || err != api.OK || place != 0 {
		t.Errorf("Parse(%q) = %q, %d, %d, want %q", pattern, got, err, place, tree)
	}
}

func wantError(t *testing.T, pattern string, want api.Errno, at int) {
	t.Helper()
	if got, err, place := Parse(pattern); got != "" || err != want || place != at {
		t.Errorf("Parse(%.60q) = %.60q, %d, %d, want error %d at %d", pattern, got, err, place, want, at)
	}
}

func TestParseChoicesAndChains(t *testing.T) {
	for _, c := range [][2]string{
		{"", "e"}, {"a", "<61>"}, {"ab", "(<61><62>)"}, {"a|", "(<61>|e)"}, {"|a", "(e|<61>)"}, {"||", "(e|e|e)"},
		{"ab|c|", "((<61><62>)|<63>|e)"},
		{"()", "e"}, {"(|)", "(e|e)"}, {"((a))", "<61>"}, {"(a)(b)", "(<61><62>)"}, {"(ab)", "(<61><62>)"},
		{"(ab)(c|d)", "((<61><62>)(<63>|<64>))"}, {"a|(b|c)", "(<61>|(<62>|<63>))"},
		{"^a(b|c)*d?$", "^(<61>(<62>|<63>)*<64>?)$"},
		{"^", "^e"}, {"$", "e$"}, {"^$", "^e$"}, {"^a|b$", "^(<61>|<62>)$"}, {"a|$", "(<61>|e)$"}, {"^|", "^(e|e)"}, {"(a)$", "<61>$"},
	} {
		wantTree(t, c[0], c[1])
	}
}

func TestParseCounts(t *testing.T) {
	for _, c := range [][2]string{
		{"a*", "<61>*"}, {"a+", "<61>+"}, {"a?", "<61>?"}, {"a**{0,}", "<61>**{0,}"}, {"a+?*", "<61>+?*"},
		{"a{0}", "<61>{0,0}"}, {"a{7}", "<61>{7,7}"}, {"a{30}", "<61>{30,30}"}, {"a{10}", "<61>{10,10}"},
		{"a{0,}", "<61>{0,}"}, {"a{30,}", "<61>{30,}"},
		{"a{0,0}", "<61>{0,0}"}, {"a{0,30}", "<61>{0,30}"}, {"a{3,3}", "<61>{3,3}"}, {"a{3,20}", "<61>{3,20}"}, {"a{29,30}", "<61>{29,30}"},
		{"()*", "e*"}, {"(a*)+", "<61>*+"}, {"(ab){2}c", "((<61><62>){2,2}<63>)"}, {"(a|b)?", "(<61>|<62>)?"},
		{"[a-cx-z0]{2}+", "<30 61-63 78-7a>{2,2}+"}, {".*", "<00-09 0b-ff>*"}, {"\\d{2}", "<30-39>{2,2}"},
	} {
		wantTree(t, c[0], c[1])
	}
}

func TestParseEscapes(t *testing.T) {
	for _, c := range [][2]string{
		{"\\n", "<0a>"}, {"\\t", "<09>"}, {"\\-", "<2d>"}, {"\\x00", "<00>"}, {"\\xff", "<ff>"}, {"\\x9a", "<9a>"}, {"\\xa9", "<a9>"},
		{"\\d", "<30-39>"}, {"\\w", "<30-39 41-5a 5f 61-7a>"}, {"\\s", "<09-0a 0d 20>"}, {"\\x4142", "(<41><34><32>)"},
		{"\\\\", "<5c>"}, {"\\.", "<2e>"}, {"\\[", "<5b>"}, {"\\]", "<5d>"}, {"\\(", "<28>"}, {"\\)", "<29>"}, {"\\{", "<7b>"},
		{"\\}", "<7d>"}, {"\\|", "<7c>"}, {"\\*", "<2a>"}, {"\\+", "<2b>"}, {"\\?", "<3f>"}, {"\\^", "<5e>"}, {"\\$", "<24>"},
	} {
		wantTree(t, c[0], c[1])
	}
}

// TestParseEveryByte: alone, behind a `\` and in a class, each byte by the document's lists.
func TestParseEveryByte(t *testing.T) {
	const signs = "\\.[](){}|*+?^$"
	fitting := map[string]string{".": "<00-09 0b-ff>", "|": "(e|e)", "^": "^e", "$": "e$"}
	unfinished := map[string]int{"\\": 1, "[": 1, "(": 1}
	outside := map[string]int{"\\": 3, "[": 1, "]": 1, "^": 2, "-": 1}
	for n := range 256 {
		b := string([]byte{byte(n)})
		itself := fmt.Sprintf("<%02x>", n)
		if tree, ok := fitting[b]; ok {
			wantTree(t, b, tree)
		} else if strings.Contains(signs, b) {
			wantError(t, b, api.ErrSyntax, unfinished[b])
		} else {
			wantTree(t, b, itself)
		}
		if strings.Contains(signs+"-", b) {
			wantTree(t, "\\"+b, itself)
			wantTree(t, "[\\"+b+"]", itself)
		} else if !strings.Contains("ntxdws", b) {
			wantError(t, "\\"+b, api.ErrSyntax, 1)
			wantError(t, "[\\"+b+"]", api.ErrSyntax, 2)
		}
		if at, ok := outside[b]; ok {
			wantError(t, "["+b+"]", api.ErrSyntax, at)
		} else {
			wantTree(t, "["+b+"]", itself)
		}
	}
}

func TestParseClasses(t *testing.T) {
	for _, c := range [][2]string{
		{"[^\\x00-\\xfe]", "<ff>"}, {"[^\\x00-\\xff]", "<>"}, {"[\\x00-\\xff]", "<00-ff>"}, {"[^a]", "<00-60 62-ff>"},
		{"[ab]", "<61-62>"}, {"[ac]", "<61 63>"}, {"[c-da-b]", "<61-64>"}, {"[a-cb-d]", "<61-64>"}, {"[aa]", "<61>"}, {"[a-a]", "<61>"},
		{"[\\d\\s]", "<09-0a 0d 20 30-39>"}, {"[^\\d\\w]", "<00-2f 3a-40 5b-5e 60 7b-ff>"}, {"[a-c\\d]", "<30-39 61-63>"}, {"[\\da-c]", "<30-39 61-63>"},
		{"[,-\\-]", "<2c-2d>"}, {"[\\--/]", "<2d-2f>"}, {"[\\[-\\]]", "<5b-5d>"}, {"[\\x61-c]", "<61-63>"}, {"[\\t-\\n]", "<09-0a>"},
		{"[Z-\\x5a]", "<5a>"}, {"[z-\\x7a]", "<7a>"}, {"[z-\\x80]", "<7a-80>"}, {"[\xff-\\xff]", "<ff>"}, {"[\x00-\xff]", "<00-ff>"},
		{"[.$(){}|*+?]", "<24 28-2b 2e 3f 7b-7d>"}, {"[\n]", "<0a>"}, {"[\\^]", "<5e>"}, {"[^\\^]", "<00-5d 5f-ff>"},
	} {
		wantTree(t, c[0], c[1])
	}
}

type fault struct {
	pattern string
	at      int
}

func TestParseMisplaced(t *testing.T) {
	for _, c := range []fault{
		{"*a", 0}, {"+", 0}, {"?", 0}, {"{", 0}, {"{2}", 0}, {"}", 0}, {"]", 0}, {")", 0}, {"a]", 1}, {"a}", 1}, {"a)", 1},
		{"|*", 1}, {"a|+", 2}, {"(?)", 1}, {"(|{2})", 2}, {"^*", 1}, {"^{1}", 1},
		{"a^", 1}, {"^^", 1}, {"(^a)", 1}, {"a|^", 2}, {"|^", 1}, {"$^", 1},
		{"a$b", 2}, {"$$", 1}, {"$|", 1}, {"$*", 1}, {"a$)", 2}, {"(a$)", 2}, {"($", 1}, {"(a|$)", 3},
		{"(", 1}, {"(a", 2}, {"((a)", 4}, {"(a|", 3}, {"())", 2}, {"(a))(", 3},
	} {
		wantError(t, c.pattern, api.ErrSyntax, c.at)
	}
}

func TestParseWrongEscapes(t *testing.T) {
	for _, c := range []fault{
		{"\\", 1}, {"\\q", 1}, {"ab\\D", 3}, {"\\N", 1}, {"\\X41", 1}, {"\\0", 1}, {"\\,", 1},
		{"\\x", 2}, {"\\x4", 3}, {"\\xg0", 2}, {"\\x0g", 3}, {"\\xA0", 2}, {"\\x0F", 3}, {"\\x-1", 2},
	} {
		wantError(t, c.pattern, api.ErrSyntax, c.at)
	}
}

func TestParseWrongClasses(t *testing.T) {
	for _, c := range []fault{
		{"[", 1}, {"[]", 1}, {"[^", 2}, {"[^]", 2}, {"[^^]", 2}, {"[[", 1}, {"[-", 1}, {"[-a]", 1}, {"[^-a]", 2},
		{"[a", 2}, {"[a^]", 2}, {"[a[]", 2}, {"[a-", 3}, {"[a-]", 3}, {"[a-[", 3}, {"[a-^]", 3}, {"[a--]", 3}, {"[a-b-c]", 4}, {"[a-b-]", 4},
		{"[\\d-a]", 3}, {"[\\w-\\w]", 3}, {"[a-\\d]", 4}, {"[a-\\s]", 4}, {"[a-\\q]", 4}, {"[\\", 2}, {"[\\q]", 2}, {"[\\x4", 4}, {"[\\x4]", 4},
		{"[b-a]", 3}, {"[\\x01-\x00]", 6}, {"[z-\\", 4}, {"[z-\\n]", 4}, {"[z-\\-]", 4}, {"[z-\\y]", 4}, {"[z-\\x", 5},
		{"[z-\\x6a]", 5}, {"[z-\\x6", 5}, {"[z-\\x7", 6}, {"[z-\\x79]", 6}, {"[\\xff-\\xfe]", 9}, {"[\\xff-\\xef]", 8}, {"[\xff-\xfe]", 3},
	} {
		wantError(t, c.pattern, api.ErrSyntax, c.at)
	}
}

func TestParseWrongCounts(t *testing.T) {
	for _, c := range []fault{
		{"a{", 2}, {"a{}", 2}, {"a{,2}", 2}, {"a{ 2}", 2}, {"a{-1}", 2}, {"a{x", 2}, {"a{2", 3}, {"a{2 }", 3}, {"a{2x", 3},
		{"a{05}", 3}, {"a{00}", 3}, {"a{31}", 3}, {"a{40}", 3}, {"a{300}", 4}, {"a{100}", 4}, {"a{99999999999999999999}", 3},
		{"a{2,", 4}, {"a{2,x}", 4}, {"a{2,,", 4}, {"a{2,3", 5}, {"a{2,3,", 5}, {"a{2,3x}", 5}, {"a{0,00}", 5}, {"a{0,05}", 5}, {"a{0,31}", 5},
		{"a{3,2}", 5}, {"a{3,0}", 4}, {"a{1,0}", 4}, {"a{12,1}", 6}, {"a{12,1", 6}, {"a{12,11}", 6}, {"a{5,4}", 4}, {"a{4,3}", 5},
		{"a{30,2}", 5}, {"a{30,1}", 5}, {"a{30,3}", 6}, {"a{30,3", 6}, {"a{25,2}", 6}, {"a{25,24}", 6}, {"a{25,3}", 6}, {"a{25,31}", 6}, {"a{25,9}", 5},
		{"a{2}}", 4}, {"a{2}{", 5}, {"a*{31}", 4},
	} {
		wantError(t, c.pattern, api.ErrSyntax, c.at)
	}
}

func nested(n int) string { return strings.Repeat("(", n) + strings.Repeat(")", n) }

func TestParseLimits(t *testing.T) {
	wantTree(t, strings.Repeat("a", 200), "("+strings.Repeat("<61>", 200)+")")
	wantError(t, strings.Repeat("a", 201), api.ErrLimit, 0)
	wantError(t, strings.Repeat("*", 201), api.ErrLimit, 0)
	wantError(t, strings.Repeat("*", 200), api.ErrSyntax, 0)
	wantError(t, strings.Repeat("(", 1<<20), api.ErrLimit, 0)

	wantTree(t, nested(20), "e")
	wantError(t, nested(21), api.ErrLimit, 0)
	wantError(t, nested(100), api.ErrLimit, 0)
	wantTree(t, strings.Repeat("(a)", 21), "("+strings.Repeat("<61>", 21)+")")
	wantTree(t, nested(20)+"|"+nested(20), "(e|e)")
	wantError(t, nested(20)+"|"+nested(21), api.ErrLimit, 0)
	wantError(t, "("+nested(20)+"a)", api.ErrLimit, 0)
}

// TestParseErrorOrder: length, then syntax, then nesting.
func TestParseErrorOrder(t *testing.T) {
	wantError(t, nested(21)+"*)", api.ErrSyntax, 43)
	wantError(t, strings.Repeat("(", 21), api.ErrSyntax, 21)
	wantError(t, strings.Repeat("(", 200), api.ErrSyntax, 200)
	wantError(t, nested(21)+"^", api.ErrSyntax, 42)
	wantError(t, nested(101), api.ErrLimit, 0)
	wantError(t, nested(21)+strings.Repeat(")", 158), api.ErrSyntax, 42)
	wantError(t, nested(21)+strings.Repeat(")", 159), api.ErrLimit, 0)
}
