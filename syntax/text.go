package syntax

import (
	"strconv"

	"hasp/set"
)

// Text tells the tree's text.
func (p Pattern) Text() string {
	var out []byte
	if p.Front {
		out = append(out, '^')
	}
	out = appendChoices(out, p.Choices)
	if p.Back {
		out = append(out, '$')
	}
	return string(out)
}

func appendChoices(out []byte, chains Choices) []byte {
	if len(chains) == 1 {
		return appendChain(out, chains[0])
	}
	for i, chain := range chains {
		if i == 0 {
			out = append(out, '(')
		} else {
			out = append(out, '|')
		}
		out = appendChain(out, chain)
	}
	return append(out, ')')
}

func appendChain(out []byte, parts Chain) []byte {
	switch len(parts) {
	case 0:
		return append(out, 'e')
	case 1:
		return appendPart(out, parts[0])
	}
	out = append(out, '(')
	for _, part := range parts {
		out = appendPart(out, part)
	}
	return append(out, ')')
}

func appendPart(out []byte, part Part) []byte {
	if len(part.Atom.Group) > 0 {
		out = appendChoices(out, part.Atom.Group)
	} else {
		out = appendBytes(out, part.Atom.Bytes)
	}
	for _, count := range part.Counts {
		out = appendCount(out, count)
	}
	return out
}

func appendCount(out []byte, count Count) []byte {
	out = append(out, count.Sign)
	if count.Sign != '{' {
		return out
	}
	out = strconv.AppendInt(out, int64(count.Least), 10)
	out = append(out, ',')
	if count.Most != Endless {
		out = strconv.AppendInt(out, int64(count.Most), 10)
	}
	return append(out, '}')
}

func appendBytes(out []byte, bytes set.Set[byte]) []byte {
	out = append(out, '<')
	blank := false
	// An int goes on beyond 255, where a byte would begin anew.
	for low := 0; low < 256; low++ {
		if !bytes.Has(byte(low)) {
			continue
		}
		if blank {
			out = append(out, ' ')
		}
		blank = true
		high := spanEnd(bytes, low)
		out = appendSpan(out, low, high)
		low = high
	}
	return append(out, '>')
}

// spanEnd tells the last of the bytes that follow low without a gap.
func spanEnd(bytes set.Set[byte], low int) int {
	high := low
	for high < 255 && bytes.Has(byte(high+1)) {
		high++
	}
	return high
}

func appendSpan(out []byte, low, high int) []byte {
	out = append(out, hexSigns[low/16], hexSigns[low%16])
	if high > low {
		out = append(out, '-', hexSigns[high/16], hexSigns[high%16])
	}
	return out
}
