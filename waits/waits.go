// Package waits holds what waits to be worked at.
package waits

import "quern/sets"

// Queue is a queue of numbers, each of which waits there once at most. Its zero
// value is the empty one.
type Queue[T sets.Number] struct {
	line   []T
	inside sets.Set[T]
}

// Add lets a number wait, if it does not wait already.
func (q *Queue[T]) Add(n T) {
	if q.inside.Add(n) {
		q.line = append(q.line, n)
	}
}

// Next takes out what has waited longest. The answer is false, if nothing waits.
func (q *Queue[T]) Next() (T, bool) {
	if len(q.line) == 0 {
		return 0, false
	}
	n := q.line[0]
	q.line = q.line[1:]
	q.inside.Remove(n)
	return n, true
}
