package same

import (
	"math/rand"
	"testing"
)

func TestAllDifferentAtFirst(t *testing.T) {
	var c Classes[uint]
	for _, n := range []uint{9, 0, 100, 3} {
		if got := c.Of(n); got != n {
			t.Errorf("%d stands for %d", got, n)
		}
	}
}

func TestJoin(t *testing.T) {
	var c Classes[uint]
	for _, j := range []struct {
		a, b, stays, goes uint
		isNew             bool
	}{
		{5, 7, 5, 7, true},
		{7, 5, 5, 5, false},
		{5, 5, 5, 5, false},
		{9, 8, 8, 9, true},
		{9, 7, 5, 8, true},
		{8, 7, 5, 5, false},
		{9, 0, 0, 5, true},
	} {
		stays, goes, isNew := c.Join(j.a, j.b)
		if stays != j.stays || goes != j.goes || isNew != j.isNew {
			t.Errorf("%d with %d: %d, %d, %v", j.a, j.b, stays, goes, isNew)
		}
	}
	for n, want := range []uint{0, 1, 2, 3, 4, 0, 6, 0, 0, 0, 10} {
		if got := c.Of(uint(n)); got != want {
			t.Errorf("%d stands for %d, want %d", got, n, want)
		}
	}
}

func TestTheEndsOfAByte(t *testing.T) {
	var c Classes[uint8]
	c.Join(255, 254)
	c.Join(0, 255)
	if c.Of(255) != 0 || c.Of(254) != 0 || c.Of(253) != 253 {
		t.Errorf("%d, %d, %d", c.Of(255), c.Of(254), c.Of(253))
	}
}

func TestAgainstList(t *testing.T) {
	r := rand.New(rand.NewSource(1))
	for range 100 {
		var c Classes[uint16]
		least := make([]uint16, 40)
		for n := range least {
			least[n] = uint16(n)
		}
		for range 30 {
			a, b := uint16(r.Intn(40)), uint16(r.Intn(40))
			x, y := least[a], least[b]
			if _, _, isNew := c.Join(a, b); isNew != (x != y) {
				t.Fatalf("%d with %d: new is %v", a, b, isNew)
			}
			for n := range least {
				if least[n] == x || least[n] == y {
					least[n] = min(x, y)
				}
			}
			n := uint16(r.Intn(40))
			if got := c.Of(n); got != least[n] {
				t.Fatalf("%d stands for %d, want %d", got, n, least[n])
			}
		}
	}
}
