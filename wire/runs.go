package wire

// run is some classes beside one another that all lead to one state.
type run struct{ classes, next int }

// runsOf tells the runs of a row, as long as they can be: so there is one way alone to write the row.
func runsOf(row []int) []run {
	var runs []run
	for i, next := range row {
		if i == 0 || next != row[i-1] {
			runs = append(runs, run{next: next})
		}
		runs[len(runs)-1].classes++
	}
	return runs
}
