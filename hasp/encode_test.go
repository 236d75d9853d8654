package hasp

import (
	"encoding/binary"
	"encoding/hex"
	"hash/crc32"
	"math"
	"math/rand"
	"strings"
	"sync"
	"testing"

	"hasp/api"
)

// form is one of the ways to write a table.
type form struct {
	kind int
	big  bool
}

var forms = []form{{api.Dense, false}, {api.Dense, true}, {api.Sparse, false}, {api.Sparse, true}}

func (f form) order() binary.AppendByteOrder {
	if f.big {
		return binary.BigEndian
	}
	return binary.LittleEndian
}

// sealed puts the sum behind a body.
func (f form) sealed(body string) string {
	return string(f.order().AppendUint32([]byte(body), crc32.ChecksumIEEE([]byte(body))))
}

// pairs writes numbers in two bytes each.
func (f form) pairs(numbers ...int) string {
	var b []byte
	for _, n := range numbers {
		b = f.order().AppendUint16(b, uint16(n))
	}
	return string(b)
}

// row writes a row as the document says it.
func (f form) row(row []int) string {
	if f.kind == api.Dense {
		return f.pairs(row...)
	}
	runs, text := 0, ""
	for from := 0; from < len(row); {
		to := from
		for to < len(row) && row[to] == row[from] {
			to++
		}
		text += f.pairs(to-from, row[from])
		runs++
		from = to
	}
	return f.pairs(runs) + text
}

// body writes all of a table but the sum.
func (f form) body(table api.Table) string {
	head := []byte("HASP\x01\x00\x00\x00")
	head[5] = byte(f.kind)
	if table.Front {
		head[6]++
	}
	if table.Back {
		head[6] += 2
	}
	if f.big {
		head[7] = 1
	}
	var b strings.Builder
	b.Write(head)
	b.WriteString(f.pairs(len(table.Accepts), len(table.Next[0]), table.Start) + table.Classes)
	for _, accepts := range table.Accepts {
		b.WriteByte(map[bool]byte{true: 1}[accepts])
	}
	for _, row := range table.Next {
		b.WriteString(f.row(row))
	}
	return b.String()
}

func mustEncode(t *testing.T, m *Machine, f form) string {
	t.Helper()
	b, err := m.Encode(f.kind, f.big)
	if err != api.OK {
		t.Fatalf("Encode(%d, %v): %d", f.kind, f.big, err)
	}
	return b
}

// wantBytes: in each form the machine's bytes are those of the table.
func wantBytes(t *testing.T, m *Machine, table api.Table) {
	t.Helper()
	for _, f := range forms {
		if got, want := mustEncode(t, m, f), f.sealed(f.body(table)); got != want {
			t.Errorf("Encode(%d, %v) = %d bytes %.400x, want %d: %.400x", f.kind, f.big, len(got), got, len(want), want)
		}
	}
}

// great is a table of so many states and classes, of which no two beside one another lead to the same state, if there are two.
func great(states, classes int) api.Table {
	b := make([]byte, 256)
	for i := range b {
		b[i] = byte(i % classes)
	}
	table := api.Table{Front: true, Start: states - 1, Classes: string(b)}
	for i := range states {
		table.Accepts = append(table.Accepts, i%3 != 1)
		var row []int
		for class := range classes {
			row = append(row, (i*7+class)%states)
		}
		table.Next = append(table.Next, row)
	}
	return table
}

// written are tables of all sizes, the least and the greatest among them.
func written() []api.Table {
	all := append(tables(), seekA(), great(1, 1), great(1, 256), great(2, 256), great(200, 1), great(200, 2), great(200, 255), great(200, 256), great(199, 3))
	r := rand.New(rand.NewSource(7))
	for range 40 {
		all = append(all, randomTable(r))
	}
	return all
}

// TestEncodeByHand: each byte written out, but for the classes.
func TestEncodeByHand(t *testing.T) {
	table := three()
	table.Back = true
	m := mustBuild(t, table)
	classes := strings.Repeat("00", 97) + "0102" + strings.Repeat("00", 156) + "01"
	for f, want := range map[form][2]string{
		{api.Dense, false}:  {"4841535001000200" + "0300" + "0300" + "0100", "000001" + "000001000200" + "010001000000" + "020000000100"},
		{api.Dense, true}:   {"4841535001000201" + "0003" + "0003" + "0001", "000001" + "000000010002" + "000100010000" + "000200000001"},
		{api.Sparse, false}: {"4841535001010200" + "0300" + "0300" + "0100", "000001" + "0300010000000100010001000200" + "02000200010001000000" + "0300010002000100000001000100"},
		{api.Sparse, true}:  {"4841535001010201" + "0003" + "0003" + "0001", "000001" + "0003000100000001000100010002" + "00020002000100010000" + "0003000100020001000000010001"},
	} {
		body, err := hex.DecodeString(want[0] + classes + want[1])
		if err != nil {
			t.Fatal(err)
		}
		if got := mustEncode(t, m, f); got != f.sealed(string(body)) {
			t.Errorf("Encode(%d, %v) = %x, want %x and the sum", f.kind, f.big, got, body)
		}
	}
}

func TestEncode(t *testing.T) {
	for _, table := range written() {
		for flags := range 4 {
			table.Front, table.Back = flags&1 == 1, flags&2 == 2
			wantBytes(t, mustBuild(t, table), table)
		}
	}
}

func TestEncodeEveryStart(t *testing.T) {
	for start := range api.MaxStates {
		table := ring(api.MaxStates)
		table.Start = start
		wantBytes(t, mustBuild(t, table), table)
	}
}

func TestEncodeLengths(t *testing.T) {
	for _, c := range []struct {
		states, classes, dense, sparse int
	}{
		{1, 1, 277, 281}, {1, 256, 787, 281}, {2, 1, 280, 288}, {2, 256, 1300, 2328}, {200, 1, 874, 1674}, {200, 256, 102874, 205674},
	} {
		m := mustBuild(t, great(c.states, c.classes))
		for _, f := range forms {
			want := c.dense
			if f.kind == api.Sparse {
				want = c.sparse
			}
			if got := len(mustEncode(t, m, f)); got != want {
				t.Errorf("%d states, %d classes, kind %d: %d bytes, want %d", c.states, c.classes, f.kind, got, want)
			}
		}
	}
}

// TestEncodeRuns: runs are as long as they can be, and what comes again further on is another one.
func TestEncodeRuns(t *testing.T) {
	var classes []byte
	for i := range 256 {
		classes = append(classes, byte(min(i, 5)))
	}
	for _, c := range []struct {
		row  []int
		runs []int
	}{
		{[]int{0, 0, 0, 0, 0, 0}, []int{1, 6, 0}},
		{[]int{1, 1, 1, 1, 1, 1}, []int{1, 6, 1}},
		{[]int{0, 0, 1, 1, 0, 0}, []int{3, 2, 0, 2, 1, 2, 0}},
		{[]int{1, 0, 0, 0, 0, 0}, []int{2, 1, 1, 5, 0}},
		{[]int{0, 0, 0, 0, 0, 2}, []int{2, 5, 0, 1, 2}},
		{[]int{0, 1, 2, 1, 0, 1}, []int{6, 1, 0, 1, 1, 1, 2, 1, 1, 1, 0, 1, 1}},
	} {
		table := api.Table{Classes: string(classes), Accepts: make([]bool, 3), Next: [][]int{c.row, c.row, c.row}}
		m := mustBuild(t, table)
		for _, f := range forms[2:] {
			want := f.sealed(f.body(table)[:273] + strings.Repeat(f.pairs(c.runs...), 3))
			if got := mustEncode(t, m, f); got != want {
				t.Errorf("runs of %v: %x, want %x", c.row, got[273:], want[273:])
			}
		}
	}
}

func TestEncodeNoSuchKind(t *testing.T) {
	m := mustBuild(t, three())
	kinds := append([]int{-1, -2, 2, 3, 4, 127, 128, 254, 255, 258, 65537, 1<<32 + 1, math.MinInt + 1, math.MaxInt - 1}, farNumbers...)
	for _, kind := range kinds {
		for _, big := range []bool{false, true} {
			if b, err := m.Encode(kind, big); b != "" || err != api.ErrArg {
				t.Errorf("Encode(%d, %v) = %x, %d, want ErrArg", kind, big, b, err)
			}
		}
	}
	wantTable(t, m, three())
	wantBytes(t, m, three())
}

// TestEncodeChangesNothing: what was written comes out the same again, whatever was asked between.
func TestEncodeChangesNothing(t *testing.T) {
	for _, table := range tables() {
		m := mustBuild(t, copied(table))
		for range 2 {
			wantBytes(t, m, table)
			wantTable(t, m, table)
			wantSearches(t, m, table)
			told, _ := m.Table()
			spoil(told)
		}
	}
}

func TestEncodeAtOnce(t *testing.T) {
	m := mustBuild(t, three())
	var group sync.WaitGroup
	for range 8 {
		group.Go(func() {
			for range 20 {
				wantBytes(t, m, three())
			}
		})
	}
	group.Wait()
}
