// Package cycles finds out which numbers lead to each other.
package cycles

import "quern/sets"

// Around gives all numbers that start leads to and that lead back to it, start
// itself among them. To which others a number leads at once, next tells.
func Around[T sets.Number](start T, next func(T) sets.Set[T]) sets.Set[T] {
	ahead := reached(start, next)
	back := make(map[T]sets.Set[T])
	for from := range ahead.All() {
		after := next(from)
		for to := range after.All() {
			behind := back[to]
			behind.Add(from)
			back[to] = behind
		}
	}
	return reached(start, func(n T) sets.Set[T] { return back[n] })
}

// reached gives all numbers that start leads to, and start.
func reached[T sets.Number](start T, next func(T) sets.Set[T]) sets.Set[T] {
	var found sets.Set[T]
	found.Add(start)
	for rest := []T{start}; len(rest) > 0; {
		after := next(rest[len(rest)-1])
		rest = rest[:len(rest)-1]
		for to := range after.All() {
			if found.Add(to) {
				rest = append(rest, to)
			}
		}
	}
	return found
}
