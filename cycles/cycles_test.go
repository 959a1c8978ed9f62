package cycles

import (
	"math/rand"
	"slices"
	"testing"

	"quern/sets"
)

// steps makes a next out of pairs: from, to.
func steps(pairs ...[2]uint) func(uint) sets.Set[uint] {
	return func(n uint) sets.Set[uint] {
		var s sets.Set[uint]
		for _, p := range pairs {
			if p[0] == n {
				s.Add(p[1])
			}
		}
		return s
	}
}

func check(t *testing.T, start uint, next func(uint) sets.Set[uint], want ...uint) {
	t.Helper()
	s := Around(start, next)
	if got := slices.Collect(s.All()); !slices.Equal(got, want) {
		t.Errorf("around %d: %v, want %v", start, got, want)
	}
}

func TestAround(t *testing.T) {
	check(t, 3, steps(), 3)
	check(t, 3, steps([2]uint{3, 3}), 3)
	check(t, 3, steps([2]uint{3, 4}, [2]uint{5, 3}, [2]uint{4, 4}), 3)
	check(t, 3, steps([2]uint{3, 4}, [2]uint{4, 3}), 3, 4)
	// Two cycles through start, one that it only leads to, and one that only leads to it.
	next := steps([2]uint{1, 2}, [2]uint{2, 3}, [2]uint{3, 1}, [2]uint{1, 4}, [2]uint{4, 1}, [2]uint{3, 5}, [2]uint{5, 6}, [2]uint{6, 5}, [2]uint{7, 8}, [2]uint{8, 7}, [2]uint{8, 2})
	for n := range uint(5) {
		if n > 0 {
			check(t, n, next, 1, 2, 3, 4)
		}
	}
	check(t, 5, next, 5, 6)
	check(t, 7, next, 7, 8)
	check(t, 0, next, 0)
}

// leadTo tells which numbers lead to which, by going through all as in-betweens.
func leadTo(pairs [][2]uint, count uint) [][]bool {
	to := make([][]bool, count)
	for n := range to {
		to[n] = make([]bool, count)
		to[n][n] = true
	}
	for _, p := range pairs {
		to[p[0]][p[1]] = true
	}
	for k := range to {
		for i := range to {
			for j := range to {
				to[i][j] = to[i][j] || to[i][k] && to[k][j]
			}
		}
	}
	return to
}

func TestAgainstAllWays(t *testing.T) {
	r := rand.New(rand.NewSource(1))
	for range 200 {
		count := uint(1 + r.Intn(12))
		var pairs [][2]uint
		for range r.Intn(20) {
			pairs = append(pairs, [2]uint{uint(r.Intn(int(count))), uint(r.Intn(int(count)))})
		}
		to := leadTo(pairs, count)
		for start := range count {
			var want []uint
			for n := range count {
				if to[start][n] && to[n][start] {
					want = append(want, n)
				}
			}
			check(t, start, steps(pairs...), want...)
		}
	}
}
