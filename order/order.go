// Package order: lists of what is still to be done, and numbers for what is met.
package order

// List is what is still to be done: what came first is taken first.
type List[T any] struct {
	things []T
	taken  int
}

// Add puts a thing behind all others.
func (l *List[T]) Add(thing T) { l.things = append(l.things, thing) }

// Take tells the next thing and leaves it behind, if there is one.
func (l *List[T]) Take() (T, bool) {
	if l.taken == len(l.things) {
		var none T
		return none, false
	}
	l.taken++
	return l.things[l.taken-1], true
}

// Numbers gives things numbers from 0 on, in the order in which they are first met.
type Numbers[T comparable] struct {
	numbers map[T]int
	todo    List[T]
}

// New makes numbers of which none is given yet.
func New[T comparable]() *Numbers[T] { return &Numbers[T]{numbers: map[T]int{}} }

// Of tells a thing's number: a new one, if the thing was never met.
func (n *Numbers[T]) Of(thing T) int {
	number, ok := n.numbers[thing]
	if !ok {
		number = len(n.numbers)
		n.numbers[thing] = number
		n.todo.Add(thing)
	}
	return number
}

// Next tells each thing once, by rising numbers, as long as one is left. What is met meanwhile comes too.
func (n *Numbers[T]) Next() (T, bool) { return n.todo.Take() }

// Count tells how many things were met.
func (n *Numbers[T]) Count() int { return len(n.numbers) }
