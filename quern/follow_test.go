package quern

import (
	"maps"
	"math/rand"
	"slices"
	"strings"
	"testing"

	"quern/api"
)

type pair struct{ from, to string }

// follow finds out what follows from facts by taking them again and again, as
// the document says it: which name may point to which.
func follow(list []api.Fact) map[pair]bool {
	may := map[pair]bool{}
	for more := true; more; {
		more = false
		for _, fact := range list {
			for _, p := range says(fact, may) {
				more = more || !may[p]
				may[p] = true
			}
		}
	}
	return may
}

// says tells what a fact says follows from what is known.
func says(fact api.Fact, may map[pair]bool) []pair {
	if fact.Kind == api.Address {
		return []pair{{fact.P, fact.Q}}
	}
	var l []pair
	for a := range may {
		switch fact.Kind {
		case api.Copy:
			if a.from == fact.Q {
				l = append(l, pair{fact.P, a.to})
			}
		case api.Load:
			if may[pair{fact.Q, a.from}] {
				l = append(l, pair{fact.P, a.to})
			}
		case api.Store:
			if a.from == fact.Q {
				for b := range may {
					if b.from == fact.P {
						l = append(l, pair{b.to, a.to})
					}
				}
			}
		}
	}
	return l
}

// textOf writes a solution as the document says it.
func textOf(list []api.Fact, may map[pair]bool) string {
	seen := map[string]bool{}
	for _, fact := range list {
		seen[fact.P], seen[fact.Q] = true, true
	}
	names := slices.Sorted(maps.Keys(seen))
	text := ""
	for _, from := range names {
		text += from + ":"
		for _, to := range names {
			if may[pair{from, to}] {
				text += " " + to
			}
		}
		text += "\n"
	}
	return text
}

// pairs reads a solution's text without the help of Read.
func pairs(text string) map[pair]bool {
	may := map[pair]bool{}
	for line := range strings.Lines(text) {
		from, rest, _ := strings.Cut(line, ":")
		for _, to := range strings.Fields(rest) {
			may[pair{from, to}] = true
		}
	}
	return may
}

func printed(t *testing.T, list []api.Fact) string {
	t.Helper()
	file, e := Print(list)
	if e != (api.Error{}) {
		t.Fatalf("P4: %v", e)
	}
	return file
}

// allFacts lists all facts of as many names.
func allFacts(names ...string) []api.Fact {
	var l []api.Fact
	for _, p := range names {
		for _, q := range names {
			for kind := api.Address; kind <= api.Store; kind++ {
				l = append(l, api.Fact{Kind: kind, P: p, Q: q})
			}
		}
	}
	return l
}

// randomFacts makes facts of a file that is at MaxNames and MaxFacts at most.
func randomFacts(r *rand.Rand) []api.Fact {
	names := 1 + r.Intn(api.MaxNames)
	if r.Intn(2) == 0 {
		names = 1 + r.Intn(8)
	}
	addresses := 1 + r.Intn(6)
	return factsOf(r.Intn(api.MaxFacts+1), func(int) api.Fact {
		kind := api.Address
		if r.Intn(addresses+1) > 0 {
			kind = api.Kind(1 + r.Intn(4))
		}
		return api.Fact{Kind: kind, P: name(r.Intn(names)), Q: name(r.Intn(names))}
	})
}

func TestAnalyzeAllFilesOfTwoNames(t *testing.T) {
	all := allFacts("a", "b")
	l := ways()
	r := rand.New(rand.NewSource(3))
	for bits := range 1 << len(all) {
		var list []api.Fact
		for i, fact := range all {
			if bits>>i&1 == 1 {
				list = append(list, fact)
			}
		}
		want := textOf(list, follow(list))
		// Each file by one way or another: all of them would take too long.
		checkWay(t, printed(t, list), l[r.Intn(len(l))], want)
	}
}

func TestAnalyzeFewFactsOfThreeNames(t *testing.T) {
	all := allFacts("a", "b", "c")
	l := ways()
	r := rand.New(rand.NewSource(4))
	var try func(list []api.Fact, next int)
	try = func(list []api.Fact, next int) {
		want := textOf(list, follow(list))
		file := printed(t, list)
		if len(list) == 4 {
			checkWay(t, file, l[r.Intn(len(l))], want)
			return
		}
		checkSolution(t, file, want)
		for i := next; i < len(all); i++ {
			try(append(list[:len(list):len(list)], all[i]), i+1)
		}
	}
	try(nil, 0)
}

func TestAnalyzeRandomFiles(t *testing.T) {
	r := rand.New(rand.NewSource(5))
	for range 150 {
		list := randomFacts(r)
		file := printed(t, list)
		checkSolution(t, file, textOf(list, follow(list)))
	}
}

func TestAllFactsHold(t *testing.T) {
	r := rand.New(rand.NewSource(6))
	for range 300 {
		list := randomFacts(r)
		l := ways()
		for _, c := range []api.Config{{}, l[r.Intn(len(l))], l[r.Intn(len(l))]} {
			got, _ := Analyze(printed(t, list), c)
			may := pairs(got.Text)
			for _, fact := range list {
				for _, p := range says(fact, may) {
					if !may[p] {
						t.Fatalf("P10: %v: by %v %v must be, in %q", list, fact, p, got.Text)
					}
				}
			}
		}
	}
}

func TestMoreFactsNeverSayLess(t *testing.T) {
	r := rand.New(rand.NewSource(7))
	l := ways()
	for k := range 60 {
		list := randomFacts(r)
		c := l[k%len(l)]
		ahead := map[pair]bool{}
		for n := range len(list) + 1 {
			got, _ := Analyze(printed(t, list[:n]), c)
			may := pairs(got.Text)
			for p := range ahead {
				if !may[p] {
					t.Fatalf("P10: %v: %v is lost by the last fact", list[:n], p)
				}
			}
			ahead = may
		}
	}
}

func TestOrderOfLinesChangesNothing(t *testing.T) {
	r := rand.New(rand.NewSource(8))
	for range 40 {
		list := randomFacts(r)
		want, _ := Analyze(printed(t, list), api.Config{})
		slices.Reverse(list)
		checkSolution(t, printed(t, list), want.Text)
		for range 3 {
			r.Shuffle(len(list), func(i, j int) { list[i], list[j] = list[j], list[i] })
			checkSolution(t, printed(t, list), want.Text)
		}
	}
}

func TestAllOrdersOfAFewLines(t *testing.T) {
	lines := []string{"p = &v", "*p = s", "t = *p", "s = t", "t = &x", "q = p"}
	want := "p: v\nq: v\ns: x\nt: x\nv: x\nx:\n"
	l := ways()
	count := 0
	var try func(n int)
	try = func(n int) {
		if n == len(lines) {
			file := strings.Join(lines, "\n")
			c := l[count%len(l)]
			count++
			if r, e := Analyze(file, c); r.Text != want || e != (api.Error{}) {
				t.Fatalf("P10: %q by %+v: %q, %v, want %q", file, c, r.Text, e, want)
			}
		}
		for i := n; i < len(lines); i++ {
			lines[n], lines[i] = lines[i], lines[n]
			try(n + 1)
			lines[n], lines[i] = lines[i], lines[n]
		}
	}
	try(0)
}

func TestDoublesChangeNothing(t *testing.T) {
	r := rand.New(rand.NewSource(9))
	for range 40 {
		list := randomFacts(r)
		list = list[:len(list)/2]
		want, _ := Analyze(printed(t, list), api.Config{})
		checkSolution(t, printed(t, slices.Concat(list, list)), want.Text)
		var twice []api.Fact
		for _, fact := range list {
			twice = append(twice, fact, fact)
		}
		checkSolution(t, printed(t, twice), want.Text)
	}
	checkSolution(t, strings.Repeat("p = &a\n", api.MaxFacts), "a:\np: a\n")
}

func TestWhatCountsForNothingChangesNothing(t *testing.T) {
	r := rand.New(rand.NewSource(10))
	loosen := func(line string) string {
		line = strings.ReplaceAll(line, " ", []string{"", " ", "\t \t"}[r.Intn(3)])
		return []string{"", "\n", " ", "\t", "#\n", "# z = &z\n"}[r.Intn(6)] + line + []string{"", "#", " # = &", "\t", "#\xff\x00", "\n\n"}[r.Intn(6)]
	}
	for range 40 {
		list := randomFacts(r)
		want, _ := Analyze(printed(t, list), api.Config{})
		var lines []string
		for _, fact := range list {
			line := printed(t, []api.Fact{fact})
			lines = append(lines, loosen(line[:len(line)-1]))
		}
		checkSolution(t, strings.Join(lines, "\n"), want.Text)
	}
}

func TestFactsThereAndBack(t *testing.T) {
	r := rand.New(rand.NewSource(11))
	files := []string{"", "\n#", someFile, fullFile(), "\tp\t=&\tq#", "*" + widest + "=" + widest}
	for range 200 {
		files = append(files, printed(t, randomFacts(r)))
	}
	for _, file := range files {
		list, e := Parse(file)
		if e != (api.Error{}) {
			t.Fatalf("P3: %q: %v", file, e)
		}
		again, e := Parse(printed(t, list))
		if !slices.Equal(again, list) || e != (api.Error{}) {
			t.Errorf("P8: %q: %v, %v, want %v", file, again, e, list)
		}
	}
}

func TestSolutionsThereAndBack(t *testing.T) {
	r := rand.New(rand.NewSource(12))
	files := []string{"", someFile, fullFile(), "b = &b", "a = &B\na = &_\na = &a0\na = &b", "*" + widest + "=" + widest}
	for range 200 {
		files = append(files, printed(t, randomFacts(r)))
	}
	l := ways()
	for k, file := range files {
		got, _ := Analyze(file, l[k%len(l)])
		rows, e := Read(got.Text)
		if e != (api.Error{}) {
			t.Fatalf("P8: %q: %q is not read: %v", file, got.Text, e)
		}
		if text, e := Tell(rows); text != got.Text || e != (api.Error{}) {
			t.Errorf("P8: %q: %q, %v, want %q", file, text, e, got.Text)
		}
	}
}
