package waits

import "testing"

func check(t *testing.T, q *Queue[uint], want ...uint) {
	t.Helper()
	for _, w := range want {
		if n, ok := q.Next(); n != w || !ok {
			t.Errorf("%d, %v, want %d", n, ok, w)
		}
	}
	if n, ok := q.Next(); ok || n != 0 {
		t.Errorf("%d, %v, want nothing", n, ok)
	}
}

func TestOldestFirst(t *testing.T) {
	var q Queue[uint]
	check(t, &q)
	q.Add(7)
	q.Add(0)
	q.Add(3)
	check(t, &q, 7, 0, 3)
}

func TestWaitsOnce(t *testing.T) {
	var q Queue[uint]
	q.Add(7)
	q.Add(3)
	q.Add(7)
	check(t, &q, 7, 3)
}

func TestWaitsAgain(t *testing.T) {
	var q Queue[uint]
	q.Add(7)
	q.Add(3)
	if n, ok := q.Next(); n != 7 || !ok {
		t.Fatalf("%d, %v, want 7", n, ok)
	}
	q.Add(7)
	q.Add(3)
	check(t, &q, 3, 7)
}
