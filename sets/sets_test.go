package sets

import (
	"math/rand"
	"slices"
	"testing"
)

func setOf[T Number](list ...T) *Set[T] {
	s := &Set[T]{}
	for _, n := range list {
		s.Add(n)
	}
	return s
}

func check[T Number](t *testing.T, what string, s *Set[T], want ...T) {
	t.Helper()
	if got := slices.Collect(s.All()); !slices.Equal(got, want) {
		t.Errorf("%s: %v, want %v", what, got, want)
	}
}

func TestAdd(t *testing.T) {
	var s Set[uint]
	check(t, "empty", &s)
	for _, n := range []uint{64, 0, 63, 200, 65, 7} {
		if !s.Add(n) {
			t.Errorf("%d is told not to be new", n)
		}
		if s.Add(n) {
			t.Errorf("%d is told to be new twice", n)
		}
	}
	check(t, "added", &s, 0, 7, 63, 64, 65, 200)
}

func TestSmallNumbers(t *testing.T) {
	check(t, "the ends of a byte", setOf[uint8](255, 0, 128), 0, 128, 255)
}

func TestRemove(t *testing.T) {
	s := setOf[uint](1, 64, 65)
	s.Remove(64)
	s.Remove(2)
	s.Remove(128)
	s.Remove(1 << 40)
	check(t, "removed", s, 1, 65)
	if !s.Add(64) {
		t.Error("a number that was removed is told to be there")
	}
}

func TestUnite(t *testing.T) {
	for _, c := range []struct {
		a, b, want []uint
		grown      bool
	}{
		{nil, nil, nil, false},
		{nil, []uint{3}, []uint{3}, true},
		{[]uint{3}, nil, []uint{3}, false},
		{[]uint{3, 5}, []uint{3}, []uint{3, 5}, false},
		{[]uint{3, 70}, []uint{3}, []uint{3, 70}, false},
		{[]uint{3}, []uint{3, 70}, []uint{3, 70}, true},
		{[]uint{70}, []uint{3, 70}, []uint{3, 70}, true},
		{[]uint{1, 200}, []uint{1, 200}, []uint{1, 200}, false},
	} {
		a, b := setOf(c.a...), setOf(c.b...)
		if grown := a.Unite(b); grown != c.grown {
			t.Errorf("%v with %v: grown is %v", c.a, c.b, grown)
		}
		check(t, "united", a, c.want...)
		check(t, "the other", b, c.b...)
		a.Add(5)
		check(t, "the other, afterwards", b, c.b...)
	}
	s := setOf[uint](1, 100)
	if s.Unite(s) {
		t.Error("a set has grown by itself")
	}
}

func TestUniteWithWordsOfNothing(t *testing.T) {
	a, b := setOf[uint](1), setOf[uint](1, 100)
	b.Remove(100)
	if a.Unite(b) {
		t.Error("grown by nothing")
	}
	check(t, "united", a, 1)
}

func TestMeetAndWithout(t *testing.T) {
	for _, c := range []struct{ a, b, both, rest []uint }{
		{nil, nil, nil, nil},
		{nil, []uint{3}, nil, nil},
		{[]uint{3}, nil, nil, []uint{3}},
		{[]uint{3, 5}, []uint{5, 7}, []uint{5}, []uint{3}},
		{[]uint{3, 70}, []uint{3}, []uint{3}, []uint{70}},
		{[]uint{3}, []uint{3, 70}, []uint{3}, nil},
		{[]uint{70, 200}, []uint{70, 201}, []uint{70}, []uint{200}},
	} {
		a, b := setOf(c.a...), setOf(c.b...)
		rest := a.Without(b)
		check(t, "without", &rest, c.rest...)
		rest.Add(9)
		check(t, "the set, afterwards", a, c.a...)
		a.Meet(b)
		check(t, "met", a, c.both...)
		check(t, "the other", b, c.b...)
	}
}

func TestHas(t *testing.T) {
	s := setOf[uint](1, 64, 200)
	for n := range uint(300) {
		if s.Has(n) != (n == 1 || n == 64 || n == 200) {
			t.Errorf("Has(%d) is %v", n, s.Has(n))
		}
	}
}

func TestEqual(t *testing.T) {
	long := setOf[uint](1, 200)
	long.Remove(200)
	emptied := setOf[uint](200)
	emptied.Remove(200)
	for _, c := range []struct {
		a, b *Set[uint]
		want bool
	}{
		{setOf[uint](), setOf[uint](), true},
		{setOf[uint](), emptied, true},
		{setOf[uint](1), long, true},
		{setOf[uint](1, 70), setOf[uint](1, 70), true},
		{setOf[uint](1), setOf[uint](), false},
		{setOf[uint](1), setOf[uint](1, 70), false},
		{setOf[uint](1, 71), setOf[uint](1, 70), false},
		{setOf[uint](2, 70), setOf[uint](1, 70), false},
	} {
		if c.a.Equal(c.b) != c.want || c.b.Equal(c.a) != c.want {
			t.Errorf("%v and %v: not %v", c.a, c.b, c.want)
		}
	}
	if !setOf[uint]().Empty() || !emptied.Empty() || setOf[uint](0).Empty() || setOf[uint](200).Empty() {
		t.Error("what is empty is told wrongly")
	}
}

func TestAllGoesThroughACopy(t *testing.T) {
	s := setOf[uint](1, 5, 100)
	var got []uint
	for n := range s.All() {
		got = append(got, n)
		s.Add(n + 1)
		s.Add(n + 64)
	}
	if !slices.Equal(got, []uint{1, 5, 100}) {
		t.Errorf("%v, want what was there at first", got)
	}
	for n := range s.All() {
		if n != 1 {
			t.Error("gone on behind a break")
		}
		break
	}
}

func TestAgainstMap(t *testing.T) {
	r := rand.New(rand.NewSource(1))
	var s Set[uint16]
	has := map[uint16]bool{}
	for range 2000 {
		n := uint16(r.Intn(300))
		if r.Intn(3) == 0 {
			s.Remove(n)
			delete(has, n)
		} else if s.Add(n) == has[n] {
			t.Fatalf("Add(%d), where its being there is %v", n, has[n])
		} else {
			has[n] = true
		}
	}
	var want []uint16
	for n := range uint16(300) {
		if has[n] {
			want = append(want, n)
		}
	}
	check(t, "in the end", &s, want...)
}
