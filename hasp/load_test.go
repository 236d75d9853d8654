package hasp

import (
	"reflect"
	"strings"
	"testing"
	"unsafe"

	"hasp/api"
)

func mustLoad(t *testing.T, b string) *Machine {
	t.Helper()
	m, err := Load(b)
	if m == nil || err != api.OK {
		t.Fatalf("Load of %d bytes, %.40x: %v, %d", len(b), b, m, err)
	}
	return m
}

func wantNoBytes(t *testing.T, what string, b string) {
	t.Helper()
	if m, err := Load(b); m != nil || err != api.ErrBytes {
		t.Errorf("%s: Load = %v, %d, want ErrBytes", what, m, err)
	}
}

// with lays bytes over those of a text from a place on.
func with(text string, at int, over string) string {
	return text[:at] + over + text[at+len(over):]
}

// Where the bytes of a table stand.
const (
	atKind    = 5
	atEnds    = 6
	atBig     = 7
	atStates  = 8
	atMany    = 10
	atStart   = 12
	atClasses = 14
	atAccepts = 270
)

func TestLoadWhatWasEncoded(t *testing.T) {
	for _, table := range written() {
		for flags := range 4 {
			table.Front, table.Back = flags&1 == 1, flags&2 == 2
			for _, f := range forms {
				m := mustLoad(t, f.sealed(f.body(table)))
				wantTable(t, m, table)
				wantSearches(t, m, table)
				if len(table.Next) < 100 || len(table.Next[0]) == 1 {
					wantBytes(t, m, table)
				}
			}
		}
	}
}

// TestLoadAndOn: from form to form and back, what a machine is does not change.
func TestLoadAndOn(t *testing.T) {
	for _, table := range written() {
		m := mustBuild(t, table)
		for _, from := range forms {
			for _, to := range forms {
				m = mustLoad(t, mustEncode(t, mustLoad(t, mustEncode(t, m, from)), to))
			}
		}
		wantTable(t, m, table)
		wantBytes(t, m, table)
	}
}

func TestLoadSearches(t *testing.T) {
	back := seekA()
	back.Back = true
	for _, f := range forms {
		m := mustLoad(t, f.sealed(f.body(seekA())))
		wantEnds(t, m, "", -1, -1)
		wantEnds(t, m, "xa", 2, 2)
		wantEnds(t, m, "aXa", 1, 3)
		wantEnds(t, m, "aXaX", 1, 3)
		m = mustLoad(t, f.sealed(f.body(back)))
		wantEnds(t, m, "aXa", 3, 3)
		wantEnds(t, m, "aXaX", -1, -1)
	}
}

func TestLoadTooShort(t *testing.T) {
	for _, table := range []api.Table{three(), ring(1), great(2, 256)} {
		for _, f := range forms {
			body := f.body(table)
			whole := f.sealed(body)
			for length := range whole {
				wantNoBytes(t, "too short", whole[:length])
			}
			for length := range body {
				wantNoBytes(t, "too short, with a sum", f.sealed(body[:length]))
				wantNoBytes(t, "a piece left out, with a sum", f.sealed(body[:length]+body[length+1:]))
			}
			wantNoBytes(t, "begun too late", whole[1:])
			wantNoBytes(t, "begun too late, with a sum", f.sealed(body[1:]))
		}
	}
	for length := range 300 {
		wantNoBytes(t, "noughts", strings.Repeat("\x00", length))
		wantNoBytes(t, "bits", strings.Repeat("\xff", length))
		for _, f := range forms {
			wantNoBytes(t, "noughts with a sum", f.sealed(strings.Repeat("\x00", length)))
		}
	}
}

func TestLoadTooLong(t *testing.T) {
	for _, table := range []api.Table{three(), ring(1), ring(200), wide()} {
		for _, f := range forms {
			body := f.body(table)
			whole := f.sealed(body)
			for _, more := range []string{"\x00", "\x01", "\xff", "\x00\x00", "\x00\x00\x00\x00", body[270:], whole[len(body):], whole, strings.Repeat("\x00", 1<<17)} {
				wantNoBytes(t, "too long", whole+more)
				wantNoBytes(t, "too long, with a sum", f.sealed(body+more))
				wantNoBytes(t, "with more ahead", more+whole)
			}
		}
	}
}

func TestLoadHead(t *testing.T) {
	for _, f := range forms {
		body := f.body(three())
		for at := range 5 {
			for n := range 256 {
				if b := byte(n); b != body[at] {
					wantNoBytes(t, "the name or the version", f.sealed(with(body, at, string([]byte{b}))))
				}
			}
		}
		for n := range 256 {
			if n != f.kind {
				wantNoBytes(t, "the kind", f.sealed(with(body, atKind, string([]byte{byte(n)}))))
			}
			ends := f.sealed(with(body, atEnds, string([]byte{byte(n)})))
			if n > 3 {
				wantNoBytes(t, "Front and Back", ends)
				continue
			}
			table := three()
			table.Front, table.Back = n&1 == 1, n&2 == 2
			wantTable(t, mustLoad(t, ends), table)
		}
		for n := range 256 {
			turned := with(body, atBig, string([]byte{byte(n)}))
			if turned != body {
				wantNoBytes(t, "the order", f.sealed(turned))
				wantNoBytes(t, "the order, the sum in the other", form{f.kind, !f.big}.sealed(turned))
			}
		}
	}
	wantNoBytes(t, "the version left out", forms[0].sealed("HASP"+forms[0].body(three())[5:]))
}

// TestLoadOrderLies: everything in one order, but the byte that tells it says the other.
func TestLoadOrderLies(t *testing.T) {
	for _, table := range written()[:10] {
		for _, f := range forms {
			other := form{f.kind, !f.big}
			body := f.body(table)
			turned := with(body, atBig, string([]byte{1 - body[atBig]}))
			wantNoBytes(t, "the order alone", f.sealed(turned))
			wantNoBytes(t, "the order and the sum", other.sealed(turned))
			wantNoBytes(t, "the sum alone", other.sealed(body))
		}
	}
}

func TestLoadHowManyStates(t *testing.T) {
	for _, f := range forms {
		body := f.body(three())
		for _, n := range []int{0, 1, 2, 4, 5, 200, 201, 256, 259, 768, 0xffff} {
			wantNoBytes(t, "states", f.sealed(with(body, atStates, f.pairs(n))))
		}
		for _, states := range []int{201, 202, 255, 256, 257, 456, 1000} {
			wantNoBytes(t, "too many states", f.sealed(f.body(ring(states))))
		}
		for _, states := range []int{1, 2, 128, 199, 200} {
			wantTable(t, mustLoad(t, f.sealed(f.body(ring(states)))), ring(states))
		}
		none := body[:atStates] + f.pairs(0, 3, 0) + three().Classes
		wantNoBytes(t, "no states", f.sealed(none))
		wantNoBytes(t, "no states and no classes", f.sealed(with(none, atMany, f.pairs(0))))
	}
}

func TestLoadHowManyClasses(t *testing.T) {
	for _, f := range forms {
		body := f.body(three())
		for _, n := range []int{0, 1, 2, 4, 5, 255, 256, 257, 259, 768, 0xffff} {
			wantNoBytes(t, "classes", f.sealed(with(body, atMany, f.pairs(n))))
		}
		// Rows of as many states as the head says, but Classes has other classes.
		for _, many := range []int{0, 1, 2, 4, 256, 257, 300} {
			table := three()
			for i := range table.Next {
				table.Next[i] = make([]int, many)
			}
			wantNoBytes(t, "rows of other classes", f.sealed(f.body(table)))
			for i := range table.Next {
				for class := range table.Next[i] {
					table.Next[i][class] = (i + class) % 3
				}
			}
			wantNoBytes(t, "rows of other classes and many runs", f.sealed(f.body(table)))
		}
		for _, many := range []int{255, 257, 512} {
			table := wide()
			for i := range table.Next {
				table.Next[i] = make([]int, many)
			}
			wantNoBytes(t, "rows beside 256 classes", f.sealed(f.body(table)))
		}
	}
}

func TestLoadStart(t *testing.T) {
	for _, f := range forms {
		for _, states := range []int{1, 3, 200} {
			body := f.body(ring(states))
			for start := range 0x10000 {
				if start > 300 && start%251 != 0 && start%256 != 0 {
					continue
				}
				b := f.sealed(with(body, atStart, f.pairs(start)))
				if start >= states {
					wantNoBytes(t, "Start", b)
					continue
				}
				table := ring(states)
				table.Start = start
				wantTable(t, mustLoad(t, b), table)
			}
		}
	}
}

func TestLoadClasses(t *testing.T) {
	for _, f := range forms {
		body := f.body(three())
		for at := range 256 {
			for _, class := range []byte{0, 1, 2, 3, 4, 128, 255} {
				table := three()
				table.Classes = with(table.Classes, at, string([]byte{class}))
				b := f.sealed(with(body, atClasses+at, string([]byte{class})))
				if m, _ := Build(table); m == nil {
					wantNoBytes(t, "Classes", b)
				} else {
					wantTable(t, mustLoad(t, b), table)
				}
			}
		}
		wantNoBytes(t, "the byte 0", f.sealed(with(body, atClasses, "\x01")))
		wantNoBytes(t, "a class left out", f.sealed(with(body, atClasses+50, "\x02")))
		wantNoBytes(t, "a class too many", f.sealed(with(body, atClasses+255, "\x03")))
		wantNoBytes(t, "a class too few", f.sealed(with(body, atClasses+'b', "\x01")))
	}
}

func TestLoadAccepts(t *testing.T) {
	for _, f := range forms {
		body := f.body(three())
		for at := range 3 {
			for n := range 256 {
				b := f.sealed(with(body, atAccepts+at, string([]byte{byte(n)})))
				if n > 1 {
					wantNoBytes(t, "what accepts", b)
					continue
				}
				table := three()
				table.Accepts[at] = n == 1
				wantTable(t, mustLoad(t, b), table)
			}
		}
	}
}

// TestLoadKeepsNoText: the bytes that are handed in may be let go.
func TestLoadKeepsNoText(t *testing.T) {
	for _, f := range forms {
		bytes := []byte(f.sealed(f.body(three())))
		m := mustLoad(t, unsafe.String(&bytes[0], len(bytes)))
		first, _ := m.Table()
		clear(bytes)
		wantTable(t, m, three())
		wantSearches(t, m, three())
		if !reflect.DeepEqual(first, three()) {
			t.Errorf("the table was told from what was handed in")
		}
	}
}

// TestLoadedShareNothing: of two machines from the same bytes, and of what they tell, nothing is shared.
func TestLoadedShareNothing(t *testing.T) {
	for _, table := range tables() {
		for _, f := range forms {
			b := f.sealed(f.body(table))
			one, two := mustLoad(t, b), mustLoad(t, b)
			told, _ := one.Table()
			grow(told)
			spoil(told)
			for _, m := range []*Machine{one, two} {
				wantTable(t, m, table)
				wantSearches(t, m, table)
			}
			wantNoBytes(t, "between others", b[1:])
			if got := mustEncode(t, one, f); got != b {
				t.Errorf("what was loaded is encoded as %x, want %x", got, b)
			}
		}
	}
}
