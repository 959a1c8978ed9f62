package waits

import (
	"testing"

	"quern/api"
)

var orders = []api.Order{api.First, api.Last, api.Phases}

func lineOf(order api.Order, list ...uint) *Line[uint] {
	l := New[uint](order)
	for _, n := range list {
		l.Add(n)
	}
	return l
}

// take tells where those that are taken next are not these.
func take(t *testing.T, l *Line[uint], want ...uint) {
	t.Helper()
	for _, w := range want {
		if n, ok := l.Next(); n != w || !ok {
			t.Errorf("order %d: %d, %v, want %d", l.order, n, ok, w)
		}
	}
}

// takeAll tells where those that are left are not these, and no others.
func takeAll(t *testing.T, l *Line[uint], want ...uint) {
	t.Helper()
	take(t, l, want...)
	for range 2 {
		if n, ok := l.Next(); ok || n != 0 {
			t.Errorf("order %d: %d, %v, want nothing", l.order, n, ok)
		}
	}
}

func TestNothingWaits(t *testing.T) {
	for _, o := range orders {
		takeAll(t, lineOf(o))
	}
}

func TestFirst(t *testing.T) {
	l := lineOf(api.First, 7, 0, 3)
	take(t, l, 7)
	l.Add(1)
	l.Add(7)
	take(t, l, 0, 3, 1)
	l.Add(1)
	takeAll(t, l, 7, 1)
}

func TestLast(t *testing.T) {
	l := lineOf(api.Last, 3, 0, 7)
	take(t, l, 7)
	l.Add(1)
	l.Add(7)
	take(t, l, 7, 1)
	l.Add(9)
	takeAll(t, l, 9, 0, 3)
}

func TestPhases(t *testing.T) {
	l := lineOf(api.Phases, 7, 3, 5)
	take(t, l, 3)
	// What comes meanwhile waits for the next phase, be it the least of all.
	l.Add(9)
	l.Add(1)
	l.Add(3)
	take(t, l, 5, 7)
	l.Add(2)
	take(t, l, 1)
	l.Add(0)
	takeAll(t, l, 2, 3, 9, 0)
}

func TestWaitsOnce(t *testing.T) {
	takeAll(t, lineOf(api.First, 7, 3, 7), 7, 3)
	takeAll(t, lineOf(api.Last, 7, 3, 7), 3, 7)
	takeAll(t, lineOf(api.Phases, 7, 3, 7), 3, 7)
	l := lineOf(api.Phases, 7, 3)
	take(t, l, 3)
	l.Add(7)
	takeAll(t, l, 7)
}

func TestDrop(t *testing.T) {
	for _, o := range orders {
		l := lineOf(o, 1, 2, 3)
		l.Drop(2)
		l.Drop(9)
		if o == api.Last {
			takeAll(t, l, 3, 1)
		} else {
			takeAll(t, l, 1, 3)
		}
		l.Add(2)
		takeAll(t, l, 2)
	}
	l := lineOf(api.First, 1, 2, 3)
	take(t, l, 1)
	l.Drop(2)
	l.Add(2)
	takeAll(t, l, 3, 2)
	l = lineOf(api.Phases, 1, 2, 3)
	take(t, l, 1)
	l.Add(4)
	l.Add(5)
	l.Drop(2)
	l.Drop(4)
	takeAll(t, l, 3, 5)
}
