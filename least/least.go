// Package least: the least table that knows what another one knows.
package least

import (
	"bytes"

	"hasp/api"
	"hasp/order"
)

// Table tells the least table that knows what t knows, its states and classes numbered as they are met. From Start all states of t can be come to.
func Table(t api.Table) api.Table {
	blocks := split(t)
	least := api.Table{Front: t.Front, Back: t.Back}
	classes, olds := join(t, blocks)
	least.Classes = classes
	met := order.New[byte]()
	met.Of(blocks[t.Start])
next:
	block, ok := met.Next()
	if !ok {
		return least
	}
	// One state of a block tells all of them.
	state := bytes.IndexByte(blocks, block)
	row := make([]int, len(olds))
	for class, old := range olds {
		row[class] = met.Of(blocks[t.Next[state][old]])
	}
	least.Accepts = append(least.Accepts, t.Accepts[state])
	least.Next = append(least.Next, row)
	goto next
}

// split tells of each state its block: states are in one, if no text tells them apart.
func split(t api.Table) []byte {
	blocks, many := accepting(t), 0
again:
	met := order.New[string]()
	finer := make([]byte, len(blocks))
	for state, row := range t.Next {
		finer[state] = byte(met.Of(look(blocks, state, row)))
	}
	// A state's own block is in its look: so blocks are split and never joined, and if they are as many, they are the same.
	if met.Count() > many {
		blocks, many = finer, met.Count()
		goto again
	}
	return blocks
}

// accepting is the first blocks: what the empty text tells apart.
func accepting(t api.Table) []byte {
	blocks := make([]byte, len(t.Accepts))
	for state, accepts := range t.Accepts {
		if accepts {
			blocks[state] = 1
		}
	}
	return blocks
}

// look is how a state looks if only blocks are seen: its own, and those to which it leads.
func look(blocks []byte, state int, row []int) string {
	seen := []byte{blocks[state]}
	for _, next := range row {
		seen = append(seen, blocks[next])
	}
	return string(seen)
}

// join puts bytes into one class, if they lead every state to the same block. It tells Classes, and for each class an old one that was joined into it.
func join(t api.Table, blocks []byte) (string, []int) {
	met := order.New[string]()
	var classes [256]byte
	var olds []int
	for b := range classes {
		old := int(t.Classes[b])
		class := met.Of(column(t, blocks, old))
		if class == len(olds) {
			olds = append(olds, old)
		}
		classes[b] = byte(class)
	}
	return string(classes[:]), olds
}

// column is the blocks to which a class leads, state by state.
func column(t api.Table, blocks []byte, class int) string {
	column := make([]byte, len(t.Next))
	for state, row := range t.Next {
		column[state] = blocks[row[class]]
	}
	return string(column)
}
