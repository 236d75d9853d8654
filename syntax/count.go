package syntax

import "hasp/api"

// counts reads all counts behind an atom.
func (r *reader) counts() ([]Count, bool) {
	var list []Count
next:
	sign, ok := r.countSign()
	if !ok {
		return list, true
	}
	count := Count{Sign: sign}
	if sign == '{' {
		count.Least, count.Most, ok = r.bounds()
		if !ok {
			return nil, false
		}
	}
	list = append(list, count)
	goto next
}

// countSign steps over the sign with which a count begins, if one is next.
func (r *reader) countSign() (byte, bool) {
	b, ok := r.peek()
	if !ok {
		return 0, false
	}
	switch b {
	case '*', '+', '?', '{':
		r.at++
		return b, true
	}
	return 0, false
}

// bounds reads what stands behind a `{`, up to its `}`: the least and the most.
func (r *reader) bounds() (int, int, bool) {
	least, ok := r.number(0)
	if !ok {
		return 0, 0, false
	}
	if !r.take(',') {
		return least, least, r.take('}')
	}
	if r.take('}') {
		return least, Endless, true
	}
	most, ok := r.number(least)
	return least, most, ok && r.take('}')
}

// number reads a number of a count that is not below least.
func (r *reader) number(least int) (int, bool) {
	value, begun := 0, false
next:
	longer, ok := r.longer(value, begun, least)
	if !ok {
		return value, begun && value >= least
	}
	r.at++
	value, begun = longer, true
	goto next
}

// longer tells what value becomes with the next byte, if that is a digit with which a number of a count, not below least, may go on.
func (r *reader) longer(value int, begun bool, least int) (int, bool) {
	b, ok := r.peek()
	if !ok || b < '0' || b > '9' {
		return 0, false
	}
	if begun && value == 0 {
		return 0, false
	}
	value = value*10 + int(b-'0')
	return value, beginsNumber(value, least)
}

// beginsNumber tells whether value, or a number that begins with its digits, is from least to MaxRepeat.
func beginsNumber(value, least int) bool {
	low, high := value, value
next:
	if low > api.MaxRepeat {
		return false
	}
	if high >= least {
		return true
	}
	if value == 0 {
		return false
	}
	low, high = low*10, high*10+9
	goto next
}
