package automaton

import "hasp/api"

func isTable(t api.Table) bool {
	states := len(t.Accepts)
	if states < 1 || states > api.MaxStates || len(t.Next) != states || !isState(t.Start, states) {
		return false
	}
	classes, ok := countClasses(t.Classes)
	if !ok {
		return false
	}
	for _, row := range t.Next {
		if len(row) != classes || !areStates(row, states) {
			return false
		}
	}
	return true
}

// countClasses tells how many classes the bytes have, if they are numbered as a table's are.
func countClasses(classes string) (int, bool) {
	if len(classes) != 256 {
		return 0, false
	}
	count := 0
	for i := range len(classes) {
		class := int(classes[i])
		if class > count {
			return 0, false
		}
		// Only the class that is one above all so far makes them more.
		count = max(count, class+1)
	}
	return count, true
}

func areStates(row []int, states int) bool {
	for _, next := range row {
		if !isState(next, states) {
			return false
		}
	}
	return true
}

func isState(n, states int) bool { return n >= 0 && n < states }
