package quern

import (
	"math/rand"
	"slices"
	"strings"
	"testing"

	"quern/api"
)

// checkUnions tells where a way to work unites more sets for a file than it may.
func checkUnions(t *testing.T, file string) {
	t.Helper()
	list, e := Parse(file)
	if e != (api.Error{}) {
		t.Fatalf("P3: %q: %v", file, e)
	}
	m := len(list) + 1
	n := strings.Count(textOf(list, nil), "\n") + 1
	for _, c := range ways() {
		most := 16*m*n*n + 16*n*n*n
		if c.Deltas {
			most = 16*n*n*n + 16*m*n
		}
		if r, e := Analyze(file, c); r.Unions < 0 || r.Unions > most || e != (api.Error{}) {
			t.Errorf("P6: %q by %+v: %d unions, %v, want at most %d", file, c, r.Unions, e, most)
		}
	}
}

// lines makes a file of n lines.
func lines(n int, line func(i int) string) string {
	var file strings.Builder
	for i := range n {
		file.WriteString(line(i) + "\n")
	}
	return file.String()
}

// hardFiles lists files in which much is handed on.
func hardFiles() []string {
	few := func(i int) string { return name(i % 10) }
	all := func(i int) string { return name(i % api.MaxNames) }
	return []string{
		fullFile(),
		// All names copy all others.
		lines(100, func(i int) string { return few(i) + " = " + few(i/10) }) + lines(20, func(i int) string { return few(i) + " = &" + few(i/2) }),
		// A cycle of copies, with a chord to each name, and an address at each.
		lines(40, func(i int) string { return all(i) + " = &" + all(i) }) + lines(40, func(i int) string { return all(i+1) + " = " + all(i) }) + lines(40, func(i int) string { return all(i*7) + " = " + all(i) }),
		// The same against the order of names.
		lines(40, func(i int) string { return all(i) + " = &" + all(i+1) }) + lines(40, func(i int) string { return all(i) + " = " + all(i+1) }) + lines(40, func(i int) string { return all(i) + " = " + all(i*7) }),
		// A long way along which each name brings one more, from both ends.
		lines(40, func(i int) string { return all(i) + " = &" + all(i) }) + lines(39, func(i int) string { return all(i+1) + " = " + all(i) }),
		lines(40, func(i int) string { return all(i) + " = &" + all(i) }) + lines(39, func(i int) string { return all(i) + " = " + all(i+1) }),
		// Loads and stores alone.
		lines(40, func(i int) string { return all(0) + " = &" + all(i) }) + lines(40, func(i int) string { return all(i) + " = *" + all(i*3) }) + lines(40, func(i int) string { return "*" + all(i) + " = " + all(i*11) }),
		// Each points to the next one, and all is stored and loaded through a few.
		lines(40, func(i int) string { return all(i) + " = &" + all(i+1) }) + lines(40, func(i int) string { return few(i) + " = *" + all(i) }) + lines(40, func(i int) string { return "*" + all(i) + " = " + few(i+3) }),
		// Lines that stand there twice and oftener count each time.
		strings.Repeat("p = &p\n", api.MaxFacts),
		strings.Repeat("p = &q\nq = p\n*p = q\np = *q\n", api.MaxFacts/4),
		// Nothing points to anything.
		lines(api.MaxFacts, func(i int) string { return all(i) + " = " + all(i*i) }),
	}
}

func TestHardFilesByAllWays(t *testing.T) {
	for _, file := range hardFiles() {
		list, _ := Parse(file)
		checkSolution(t, file, textOf(list, follow(list)))
	}
}

func TestUnionsAreFew(t *testing.T) {
	files := append(hardFiles(), "", "\n#", "p = p", "p = &p", "p = *p", "*p = p", "p = &p\np = p\np = *p\n*p = p")
	r := rand.New(rand.NewSource(13))
	for range 100 {
		files = append(files, printed(t, randomFacts(r)))
	}
	for _, file := range files {
		checkUnions(t, file)
	}
}

func TestUnionsAreCounted(t *testing.T) {
	for _, c := range ways() {
		for _, file := range []string{"", "#", "p = &a", "p = &a\na = &p\n"} {
			if r, _ := Analyze(file, c); r.Unions != 0 {
				t.Errorf("P6: %q by %+v: %d unions, where nothing is handed on", file, c, r.Unions)
			}
		}
		// It is handed on, or the two are merged.
		if r, _ := Analyze("p = &a\nq = p", c); r.Unions != 1 {
			t.Errorf("P6: by %+v: %d unions, where one is enough", c, r.Unions)
		}
	}
}

func TestUnionsDoNotHangOnTheOrderOfLines(t *testing.T) {
	r := rand.New(rand.NewSource(14))
	for range 30 {
		list := randomFacts(r)
		list = list[:len(list)/2]
		file := printed(t, list)
		other := slices.Concat(list, list)
		r.Shuffle(len(other), func(i, j int) { other[i], other[j] = other[j], other[i] })
		otherFile := printed(t, other)
		for _, c := range ways() {
			a, _ := Analyze(file, c)
			if b, _ := Analyze(otherFile, c); a != b {
				t.Fatalf("P10: %q by %+v: %+v, want %+v", otherFile, c, b, a)
			}
		}
	}
}

func TestWhatLooksLikeACycleAndIsNone(t *testing.T) {
	// b goes back to a by way of *m, but m points to nothing.
	checkSolution(t, "*n = a\nb = *n\n*m = b\na = *m\nn = &v\na = &x\nb = &y", "a: x\nb: x y\nm:\nn: v\nv: x\nx:\ny:\n")
	checkSolution(t, "*n = a\nb = *n\n*m = b\na = *m\nm = &v\na = &x\nb = &y", "a: x y\nb: y\nm: v\nn:\nv: y\nx:\ny:\n")
	// Both point to something, but not to the same: v and w are on one cycle all the same.
	checkSolution(t, "*n = a\nb = *n\n*m = b\na = *m\nm = &v\nn = &w\na = &x\nb = &y\nv = &s\nw = &t", "a: s t x y\nb: s t x y\nm: v\nn: w\ns:\nt:\nv: s t x y\nw: s t x y\nx:\ny:\n")
	// h points to nothing, so that u and v stay apart.
	checkSolution(t, "*h = u\nv = *h\nu = v\nu = &x\nv = &y", "h:\nu: x y\nv: y\nx:\ny:\n")
	// Out by * of one, back by * of another that points to less.
	checkSolution(t, "u = *h\n*k = u\nh = &v\nh = &w\nk = &v\nv = &x\nw = &y", "h: v w\nk: v\nu: x y\nv: x y\nw: y\nx:\ny:\n")
	// The same targets, and a copy one way.
	checkSolution(t, "p = &a\nq = &a\nq = p\nr = q\nq = &b", "a:\nb:\np: a\nq: a b\nr: a b\n")
	// The heirs of a cycle, and those of whom it inherits, are no part of it.
	checkSolution(t, "a = b\nb = a\na = s\nz = b\ns = &x\na = &y\nz = &w", "a: x y\nb: x y\ns: x\nw:\nx:\ny:\nz: w x y\n")
}

func TestWhatLooksTheSameAndIsNot(t *testing.T) {
	// p and q are given the same, but into p there is stored by way of r.
	checkSolution(t, "p = &a\nq = &a\nr = &p\n*r = s\ns = &b", "a:\nb:\np: a b\nq: a\nr: p\ns: b\n")
	checkSolution(t, "p = s\nq = s\nr = &p\nt = r\n*t = u\nu = &b\ns = &a", "a:\nb:\np: a b\nq: a\nr: p\ns: a\nt: p\nu: b\n")
	// Two that are given nothing, but into one there is stored.
	checkSolution(t, "r = &p\n*r = s\ns = &b\nx = q\ny = p", "b:\np: b\nq:\nr: p\ns: b\nx:\ny: b\n")
	// They load by way of names that are not the same.
	checkSolution(t, "x = *p\ny = *q\np = &a\nq = &b\na = &c\nb = &d", "a: c\nb: d\nc:\nd:\np: a\nq: b\nx: c\ny: d\n")
	// They load by way of the same, and one has more.
	checkSolution(t, "x = *p\ny = *p\ny = *q\np = &a\nq = &b\na = &c\nb = &d", "a: c\nb: d\nc:\nd:\np: a\nq: b\nx: c\ny: c d\n")
	// A name and what is loaded by way of it.
	checkSolution(t, "p = &a\nx = *p\ny = p\na = &b\nb = &c", "a: b\nb: c\nc:\np: a\nx: b\ny: a\n")
	// The same indeed, and addresses of both are taken.
	checkSolution(t, "p = q\nq = p\nr = &p\ns = &q\n*r = t\nt = &a", "a:\np: a\nq: a\nr: p\ns: q\nt: a\n")
}

func TestNamesOfACycleAreStillPointedToByTheirOwn(t *testing.T) {
	// u, v and w are merged, but h points to v and w, and k to u alone.
	checkSolution(t, "*h = u\nu = *h\nh = &v\nh = &w\nk = &u\nu = &v\nx = *k\ny = *h", "h: v w\nk: u\nu: v\nv: v\nw: v\nx: v\ny: v\n")
	checkSolution(t, "a = b\nb = a\np = &a\nq = &b\n*p = c\nd = *q\nc = &p", "a: p\nb: p\nc: p\nd: p\np: a\nq: b\n")
	// A name that is merged with its own targets.
	checkSolution(t, "h = &h\nh = &a\n*h = h\nh = *h\nb = &h\na = &c", "a: a c h\nb: h\nc: a c h\nh: a c h\n")
}
