package hasp

import (
	"hash/crc32"
	"math/rand"
	"testing"

	"hasp/api"
)

// strict reads bytes as the document says them, and stops at the first thing that is odd.
type strict struct {
	f    form
	rest string
	odd  bool
}

func (s *strict) take(count int) string {
	if s.odd = s.odd || len(s.rest) < count; s.odd {
		return string(make([]byte, count))
	}
	taken := s.rest[:count]
	s.rest = s.rest[count:]
	return taken
}

func (s *strict) pair() int {
	b := s.take(2)
	if s.f.big {
		return int(b[0])*256 + int(b[1])
	}
	return int(b[1])*256 + int(b[0])
}

func (s *strict) below(limit int) int {
	n := s.pair()
	s.odd = s.odd || n >= limit
	return n
}

func (s *strict) bit() bool {
	b := s.take(1)[0]
	s.odd = s.odd || b > 1
	return b == 1
}

func (s *strict) row(states, classes int) []int {
	var row []int
	if s.f.kind == api.Dense {
		for range classes {
			row = append(row, s.below(states))
		}
		return row
	}
	last := -1
	for range s.below(classes + 1) {
		long, next := s.pair(), s.below(states)
		if s.odd = s.odd || long == 0 || len(row)+long > classes || next == last; s.odd {
			return nil
		}
		for range long {
			row = append(row, next)
		}
		last = next
	}
	s.odd = s.odd || len(row) != classes
	return row
}

func (s *strict) table() api.Table {
	var t api.Table
	states, classes := s.below(api.MaxStates+1), s.below(257)
	s.odd = s.odd || states == 0
	t.Start = s.below(states)
	t.Classes = s.take(256)
	many := 0
	for _, class := range []byte(t.Classes) {
		s.odd = s.odd || int(class) > many
		many = max(many, int(class)+1)
	}
	if s.odd = s.odd || many != classes; s.odd {
		return t
	}
	for range states {
		t.Accepts = append(t.Accepts, s.bit())
	}
	for range states {
		t.Next = append(t.Next, s.row(states, classes))
	}
	return t
}

// readStrictly tells the table that bytes hold, and in which form, or false.
func readStrictly(b string) (api.Table, form, bool) {
	s := &strict{rest: b}
	name, kind, ends := s.take(5), s.take(1)[0], s.take(1)[0]
	s.f.kind, s.f.big = int(kind), s.bit()
	if s.odd || name != "HASP\x01" || kind > 1 || ends > 3 {
		return api.Table{}, form{}, false
	}
	t := s.table()
	t.Front, t.Back = ends&1 == 1, ends&2 == 2
	body := b[:len(b)-len(s.rest)]
	sum := s.take(4)
	if s.odd || s.rest != "" || sumIn(s.f, sum) != crc32.ChecksumIEEE([]byte(body)) {
		return api.Table{}, form{}, false
	}
	return t, s.f, true
}

func sumIn(f form, b string) uint32 {
	var n uint32
	for i := range 4 {
		if f.big {
			n = n<<8 | uint32(b[i])
		} else {
			n |= uint32(b[i]) << (8 * i)
		}
	}
	return n
}

// wantStrictly: Load answers what is read strictly, and writes it as it was. It tells whether the bytes were a table's.
func wantStrictly(t *testing.T, b string) bool {
	t.Helper()
	table, f, ok := readStrictly(b)
	if !ok {
		wantNoBytes(t, "read strictly", b)
		return false
	}
	m := mustLoad(t, b)
	wantTable(t, m, table)
	if got := mustEncode(t, m, f); got != b {
		t.Errorf("what was loaded is encoded as %x, want %x", got, b)
	}
	return true
}

// TestLoadEveryByte: each byte of all ahead of the sum, with every number, and with the sum that fits.
func TestLoadEveryByte(t *testing.T) {
	for _, table := range []api.Table{four(), ring(1)} {
		for _, f := range forms {
			body := f.body(table)
			taken := 0
			for at := range body {
				for n := range 256 {
					if at >= atClasses && at < atAccepts && n%50 > 5 {
						continue // of the classes few numbers tell as much as all
					}
					if wantStrictly(t, f.sealed(with(body, at, string([]byte{byte(n)})))) {
						taken++
					}
				}
			}
			// Each byte's own number is among those that it is given.
			if taken <= len(body) {
				t.Errorf("of %d bytes %d tables were made", len(body), taken)
			}
		}
	}
}

// TestLoadEverySum: each byte of the sum, with every other number.
func TestLoadEverySum(t *testing.T) {
	for _, f := range forms {
		whole := f.sealed(f.body(four()))
		for at := len(whole) - 4; at < len(whole); at++ {
			for n := range 256 {
				if b := byte(n); b != whole[at] {
					wantNoBytes(t, "the sum", with(whole, at, string([]byte{b})))
				}
			}
		}
		body := f.body(four())
		sum := crc32.ChecksumIEEE([]byte(body))
		for _, other := range []uint32{0, 1, ^sum, ^uint32(0), sum + 1, sum - 1, sum ^ 1<<31, sum<<16 | sum>>16, crc32.Checksum([]byte(body), crc32.MakeTable(crc32.Castagnoli)), crc32.ChecksumIEEE([]byte(body[:atAccepts])), crc32.ChecksumIEEE([]byte(whole))} {
			wantNoBytes(t, "another sum", string(f.order().AppendUint32([]byte(body), other)))
		}
	}
}

// TestLoadTurned: up to four bytes that stand together, turned without a new sum, ahead of the sum or in it.
func TestLoadTurned(t *testing.T) {
	r := rand.New(rand.NewSource(8))
	for _, table := range []api.Table{four(), ring(1), great(3, 20)} {
		for _, f := range forms {
			whole := f.sealed(f.body(table))
			for at := range whole {
				for size := 1; size <= 4; size++ {
					if inSum := len(whole) - 4; at+size > len(whole) || at < inSum && at+size > inSum {
						continue
					}
					for _, mask := range []uint32{0x01010101, 0xffffffff, 0x80000001, r.Uint32() | 0x01000001, r.Uint32() | 0x01000001} {
						wantNoBytes(t, "turned", turned(whole, at, size, mask))
					}
				}
			}
		}
	}
}

// turned turns bits of so many bytes, by the bytes of a mask.
func turned(text string, at, size int, mask uint32) string {
	b := []byte(text)
	for i := range size {
		b[at+i] ^= byte(mask >> (8 * i))
	}
	return string(b)
}

// TestLoadSpoilt: several bytes changed, left out or put in, by chance, with the sum that fits.
func TestLoadSpoilt(t *testing.T) {
	r := rand.New(rand.NewSource(4))
	for range 300 {
		table := randomTable(r)
		for _, f := range forms {
			for range 20 {
				body := f.body(table)
				for range 1 + r.Intn(3) {
					body = spoilt(r, body)
				}
				wantStrictly(t, f.sealed(body))
			}
		}
	}
}

func spoilt(r *rand.Rand, body string) string {
	// The head and the rows are hit more often than the classes.
	at := atAccepts + r.Intn(len(body)-atAccepts)
	if r.Intn(3) == 0 {
		at = r.Intn(atAccepts)
	}
	switch r.Intn(4) {
	case 0:
		return body[:at] + string([]byte{byte(r.Intn(4))}) + body[at:]
	case 1:
		return body[:at] + body[at+1:] + "\x00"
	default:
		return with(body, at, string([]byte{byte(r.Intn(6))}))
	}
}
