// Package waits holds what waits to be worked at.
package waits

import (
	"slices"

	"quern/api"
	"quern/sets"
)

// Line holds numbers that wait, each of them once at most.
type Line[T sets.Number] struct {
	order  api.Order
	inside sets.Set[T]
	now    []T // whose turn it is
	come   []T // what has come since
}

// New makes a line from which is taken in that order. Nothing waits there yet.
func New[T sets.Number](order api.Order) *Line[T] {
	return &Line[T]{order: order}
}

// Add lets a number wait. If it waits already, it keeps its place.
func (l *Line[T]) Add(n T) {
	if l.inside.Add(n) {
		l.come = append(l.come, n)
	}
}

// Drop lets a number wait no longer.
func (l *Line[T]) Drop(n T) {
	l.inside.Remove(n)
	l.now = without(l.now, n)
	l.come = without(l.come, n)
}

// Next takes out whose turn it is. The answer is false, if nothing waits.
func (l *Line[T]) Next() (T, bool) {
	l.letIn()
	if len(l.now) == 0 {
		return 0, false
	}
	n := l.now[0]
	if l.order == api.Last {
		n = l.now[len(l.now)-1]
	}
	l.Drop(n)
	return n, true
}

// letIn gives those that have come their turn. A phase lets nobody in until it is
// over; those of one phase have come together, so that they go by their numbers.
func (l *Line[T]) letIn() {
	if l.order == api.Phases && len(l.now) > 0 {
		return
	}
	l.now = append(l.now, l.come...)
	l.come = nil
	if l.order == api.Phases {
		slices.Sort(l.now)
	}
}

func without[T sets.Number](list []T, n T) []T {
	return slices.DeleteFunc(list, func(m T) bool { return m == n })
}
