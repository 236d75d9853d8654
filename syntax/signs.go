package syntax

import "hasp/set"

// signs are the bytes that do not stand for themselves.
var signs = [...]byte{'\\', '.', '[', ']', '(', ')', '{', '}', '|', '*', '+', '?', '^', '$'}

type letterByte struct{ letter, value byte }

type letterSpan struct{ letter, low, high byte }

// byteEscapes are the letters that stand for one byte behind a `\`.
var byteEscapes = [...]letterByte{
	{'n', 10},
	{'t', 9},
}

// setEscapes are the letters that stand for many bytes behind a `\`: a row for each span of them.
var setEscapes = [...]letterSpan{
	{'d', '0', '9'},
	{'w', '0', '9'}, {'w', 'A', 'Z'}, {'w', '_', '_'}, {'w', 'a', 'z'},
	{'s', 9, 10}, {'s', 13, 13}, {'s', 32, 32},
}

const hexSigns = "0123456789abcdef"

func isSign(b byte) bool {
	for _, s := range signs {
		if s == b {
			return true
		}
	}
	return false
}

// escapedByte tells the one byte for which `\` and b stand, if they do.
func escapedByte(b byte) (byte, bool) {
	if isSign(b) || b == '-' {
		return b, true
	}
	for _, e := range byteEscapes {
		if e.letter == b {
			return e.value, true
		}
	}
	return 0, false
}

// escapedSet tells the many bytes for which `\` and b stand, if they do.
func escapedSet(b byte) (set.Set[byte], bool) {
	var all set.Set[byte]
	found := false
	for _, e := range setEscapes {
		if e.letter == b {
			all.AddSpan(e.low, e.high)
			found = true
		}
	}
	return all, found
}
