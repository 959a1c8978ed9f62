// Package sets holds sets of numbers.
package sets

import (
	"iter"
	"math/bits"
	"slices"
)

const wordBits = 64

// Number is what a set may hold: numbers from 0 on, so that each has its bit.
type Number interface {
	~uint | ~uint8 | ~uint16 | ~uint32 | ~uint64
}

// Set is a set of numbers. Its zero value is the empty one.
type Set[T Number] struct {
	words []uint64
}

// Add puts a number in, and tells whether it was not there.
func (s *Set[T]) Add(n T) bool {
	at, bit := place(n)
	s.reach(at + 1)
	isNew := s.words[at]&bit == 0
	s.words[at] |= bit
	return isNew
}

// Remove takes a number out, if it is there.
func (s *Set[T]) Remove(n T) {
	at, bit := place(n)
	if at < len(s.words) {
		s.words[at] &^= bit
	}
}

// Unite puts all numbers of another set in, and tells whether one of them was not there.
func (s *Set[T]) Unite(other *Set[T]) bool {
	s.reach(len(other.words))
	grown := false
	for at, word := range other.words {
		grown = grown || word&^s.words[at] != 0
		s.words[at] |= word
	}
	return grown
}

// Meet takes all numbers out that are not in another set.
func (s *Set[T]) Meet(other *Set[T]) {
	for at := range s.words {
		s.words[at] &= other.word(at)
	}
}

// Without gives a new set: all numbers of this one that are not in another.
func (s *Set[T]) Without(other *Set[T]) Set[T] {
	words := slices.Clone(s.words)
	for at := range words {
		words[at] &^= other.word(at)
	}
	return Set[T]{words}
}

// Has tells whether a number is there.
func (s *Set[T]) Has(n T) bool {
	at, bit := place(n)
	return s.word(at)&bit != 0
}

// Equal tells whether another set has the same numbers.
func (s *Set[T]) Equal(other *Set[T]) bool {
	for at := range max(len(s.words), len(other.words)) {
		if s.word(at) != other.word(at) {
			return false
		}
	}
	return true
}

// Empty tells whether no number is there.
func (s *Set[T]) Empty() bool { return s.Equal(&Set[T]{}) }

// All gives the numbers in their order. It goes through a copy, so that the set
// may be written into meanwhile: what comes in then is not given.
func (s *Set[T]) All() iter.Seq[T] {
	words := slices.Clone(s.words)
	return func(yield func(T) bool) {
		for at, word := range words {
			for rest := word; rest != 0; rest &= rest - 1 {
				if !yield(T(at*wordBits + bits.TrailingZeros64(rest))) {
					return
				}
			}
		}
	}
}

// word gives a word as it is, or would be if there were room for it.
func (s *Set[T]) word(at int) uint64 {
	if at < len(s.words) {
		return s.words[at]
	}
	return 0
}

// reach makes room for that many words.
func (s *Set[T]) reach(size int) {
	for len(s.words) < size {
		s.words = append(s.words, 0)
	}
}

// place tells in which word a number stands, and its bit there.
func place[T Number](n T) (int, uint64) {
	return int(n / wordBits), 1 << (n % wordBits)
}
