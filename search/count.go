package search

import (
	"hasp/api"
	"hasp/syntax"
)

// tooMany stands for every number of spots above MaxSpots: so counts of counts don't grow beyond all numbers, and none at all of too many is still none.
const tooMany = api.MaxSpots + 1

// spotsOfChoices tells how many spots the expansion has, tooMany at most, without expanding anything.
func spotsOfChoices(chains syntax.Choices) int {
	many := 0
	for _, chain := range chains {
		for _, part := range chain {
			many = min(many+spotsOfPart(part), tooMany)
		}
	}
	return many
}

func spotsOfPart(part syntax.Part) int {
	many := 1
	if len(part.Atom.Group) > 0 {
		many = spotsOfChoices(part.Atom.Group)
	}
	for _, count := range part.Counts {
		many = min(many*copies(count), tooMany)
	}
	return many
}

// copies tells how often the part of a count stands in the expansion.
func copies(count syntax.Count) int {
	switch {
	case count.Sign != '{':
		return 1
	case count.Most == syntax.Endless:
		return count.Least + 1
	}
	return count.Most
}
