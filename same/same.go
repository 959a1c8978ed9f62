// Package same holds what is told to be the same.
package same

import "quern/sets"

// Classes holds which numbers are told to be the same. In its zero value each is
// the same as itself alone.
type Classes[T sets.Number] struct {
	above []T // a number that each is told to be the same with; the least of a class: itself
}

// Of gives the number that stands for all that are the same as n: the least of them.
func (c *Classes[T]) Of(n T) T {
	c.reach(n)
	top := n
	for c.above[top] != top {
		top = c.above[top]
	}
	c.shorten(n, top)
	return top
}

// shorten makes the way up from n one step each for the next time.
func (c *Classes[T]) shorten(n, top T) {
	for n != top {
		next := c.above[n]
		c.above[n] = top
		n = next
	}
}

// Join tells that two numbers are the same. The answer is which of the two that
// stood for them does so from now on, and which no longer; and false, if the two
// were the same already.
func (c *Classes[T]) Join(a, b T) (stays, goes T, isNew bool) {
	a, b = c.Of(a), c.Of(b)
	if a == b {
		return a, b, false
	}
	stays, goes = min(a, b), max(a, b)
	c.above[goes] = stays
	return stays, goes, true
}

// reach makes room for all numbers up to n.
func (c *Classes[T]) reach(n T) {
	for uint64(len(c.above)) <= uint64(n) {
		c.above = append(c.above, T(len(c.above)))
	}
}
