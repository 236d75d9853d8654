package wire

import (
	"hash/crc32"
	"strings"
	"testing"
)

func TestSum(t *testing.T) {
	if got := sum([]byte("123456789")); got != 0xCBF43926 {
		t.Errorf("sum = %08x", got)
	}
	texts := []string{"", "\x00", "\x00\x00\x00\x00", "\xff", "\xff\xff\xff\xff", "HASP", strings.Repeat("hasp\x80", 999)}
	for n := range 256 {
		texts = append(texts, string([]byte{byte(n)}), string([]byte{'x', byte(n), 0}))
	}
	for _, text := range texts {
		if got, want := sum([]byte(text)), crc32.ChecksumIEEE([]byte(text)); got != want {
			t.Errorf("sum of %.40q = %08x, want %08x", text, got, want)
		}
	}
}
