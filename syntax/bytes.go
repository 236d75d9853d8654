package syntax

import (
	"strings"

	"hasp/set"
)

// escape reads what stands behind a `\` outside of a class.
func (r *reader) escape() (set.Set[byte], bool) {
	if all, ok := r.setEscape(); ok {
		return all, true
	}
	var one set.Set[byte]
	b, ok := r.byteEscape(0)
	if ok {
		one.Add(b)
	}
	return one, ok
}

// setEscape reads the letter of many bytes, if one is next.
func (r *reader) setEscape() (set.Set[byte], bool) {
	b, ok := r.peek()
	if !ok {
		return set.Set[byte]{}, false
	}
	all, ok := escapedSet(b)
	if ok {
		r.at++
	}
	return all, ok
}

// byteEscape reads what stands behind a `\` for one byte that is not below least.
func (r *reader) byteEscape(least byte) (byte, bool) {
	if r.take('x') {
		return r.hexByte(least)
	}
	b, ok := r.peek()
	if !ok {
		return 0, false
	}
	value, ok := escapedByte(b)
	if !ok || value < least {
		return 0, false
	}
	r.at++
	return value, true
}

// hexByte reads two hexadecimal signs. The first is already one too low, if even `f` behind it stays below least.
func (r *reader) hexByte(least byte) (byte, bool) {
	high, ok := r.hexSign(least / 16)
	if !ok {
		return 0, false
	}
	if high > least/16 {
		least = 0
	}
	low, ok := r.hexSign(least % 16)
	return high*16 + low, ok
}

// hexSign reads one hexadecimal sign whose number is not below least.
func (r *reader) hexSign(least byte) (byte, bool) {
	b, ok := r.peek()
	if !ok {
		return 0, false
	}
	value := strings.IndexByte(hexSigns, b)
	if value < int(least) {
		return 0, false
	}
	r.at++
	return byte(value), true
}

// class reads what stands behind a `[`, up to its `]`.
func (r *reader) class() (set.Set[byte], bool) {
	var all set.Set[byte]
	others := r.take('^')
next:
	item, ok := r.item()
	if !ok {
		return set.Set[byte]{}, false
	}
	all.AddAll(item)
	if !r.take(']') {
		goto next
	}
	if others {
		all.Invert()
	}
	return all, true
}

// item reads one item of a class.
func (r *reader) item() (set.Set[byte], bool) {
	var span set.Set[byte]
	escaped := r.take('\\')
	if escaped {
		if all, ok := r.setEscape(); ok {
			return all, true
		}
	}
	low, ok := r.itemByte(escaped, 0)
	high := low
	if ok && r.take('-') {
		high, ok = r.itemByte(r.take('\\'), low)
	}
	if ok {
		span.AddSpan(low, high)
	}
	return span, ok
}

// itemByte reads a byte of a class that is not below least, behind its `\` if it is escaped.
func (r *reader) itemByte(escaped bool, least byte) (byte, bool) {
	if escaped {
		return r.byteEscape(least)
	}
	b, ok := r.peek()
	if !ok || b < least {
		return 0, false
	}
	switch b {
	case '\\', '[', ']', '^', '-':
		return 0, false
	}
	r.at++
	return b, true
}
