package points

import (
	"slices"
	"strings"
	"testing"

	"quern/api"
	"quern/facts"
	"quern/sets"
)

// laid is a graph with the names of its numbers.
type laid struct {
	*graph
	names []string
}

func lay(t *testing.T, file string, way api.Config) laid {
	t.Helper()
	list, e := facts.Parse(file)
	if e != (api.Error{}) {
		t.Fatalf("%q: %v", file, e)
	}
	names := namesOf(list)
	return laid{newGraph(list, names, way), names}
}

func (l laid) at(name string) number { return numberOf(name, l.names) }

// of gives what is known of a name.
func (l laid) of(name string) *node { return &l.nodes[l.same.Of(l.at(name))] }

func (l laid) text(s *sets.Set[number]) string {
	var names []string
	for n := range s.All() {
		names = append(names, l.names[n])
	}
	return strings.Join(names, " ")
}

// merged tells which names are told to be the same: those of a class with blanks
// between, classes with | between.
func (l laid) merged() string {
	var classes []string
	for n, name := range l.names {
		like := name
		for m := n + 1; m < len(l.names); m++ {
			if l.same.Of(number(m)) == number(n) {
				like += " " + l.names[m]
			}
		}
		if like != name {
			classes = append(classes, like)
		}
	}
	return strings.Join(classes, "|")
}

// waitingNames takes out all that waits.
func (l laid) waitingNames() string {
	var names []string
	for n, ok := l.waiting.Next(); ok; n, ok = l.waiting.Next() {
		names = append(names, l.names[n])
	}
	return strings.Join(names, " ")
}

func TestWaitingAtFirst(t *testing.T) {
	file := "z = &a\nc = &b\nq = z\nm = &m\nc = &a"
	for order, want := range []string{"c m z", "z m c", "c m z"} {
		g := lay(t, file, api.Config{Order: api.Order(order)})
		if got := g.waitingNames(); got != want {
			t.Errorf("order %d: %q waits, want %q", order, got, want)
		}
	}
}

func TestSubstitute(t *testing.T) {
	for _, c := range []struct{ file, want string }{
		{"p = &a\nq = &a", "p q"},
		{"p = &a\nq = p\nr = q", "p q r"},
		{"a = b\nb = c\nc = a\na = &x", "a b c"},
		{"p = &a\np = &b\nq = &b\nq = &a\nr = &a", "p q"},
		{"p = &a\nq = &b\nr = p\nr = q\ns = &b\ns = &a", "r s"},
		{"p = *x\nq = *x\nx = &v", "p q"},
		{"p = *x\nq = *y\nx = &v\ny = x", "p q|x y"},
		{"p = *q\nr = p\ns = r\ns = *s", "p q r s"},
		{"x = p\ny = p\ny = q\np = &a\nq = *e", "e q|p x y"},
		{"p = *q\nq = *p\np = &a", ""},
		{"p = &a\nq = &b", ""},
		{"p = &a\nq = p\nq = &b", ""},
		{"p = *x\nq = *y\nx = &v\ny = &w", ""},
		// Into p may be stored by way of r.
		{"r = &p\np = &a\nq = &a\n*r = s\ns = &b", ""},
		{"r = &p\np = &a\nq = p", "p q"},
	} {
		g := lay(t, c.file, api.Config{Substitute: true})
		g.lookAhead()
		if got := g.merged(); got != c.want {
			t.Errorf("%q: %q are told to be the same, want %q", c.file, got, c.want)
		}
		g = lay(t, c.file, api.Config{Cycles: true, Collapse: true, Deltas: true})
		g.lookAhead()
		if got := g.merged(); got != "" {
			t.Errorf("%q: %q are told to be the same, without Substitute", c.file, got)
		}
	}
}

func TestTwins(t *testing.T) {
	for _, c := range []struct{ file, of, want string }{
		{"*h = u\nu = *h", "h", "u"},
		{"*h = u\nu = *h", "u", ""},
		{"*h = u\nr = *h\nm = r\nu = m\nz = m\nu = y", "h", "m r u"},
		{"*h = u\nu = *h\n*h = v\nv = *h", "h", "u v"},
		{"*h = h\nh = *h", "h", "h"},
		{"*h = u\nr = *h", "h", ""},
		{"*h = u\nr = *h\nr = u", "h", ""},
		{"u = *h", "h", ""},
		{"*h = u", "h", ""},
		{"a = b\nb = a\na = *h\n*k = b", "h", ""},
		// Each way round goes by * of both.
		{"*n = a\nb = *n\n*m = b\na = *m", "n", ""},
		{"*n = a\nb = *n\n*m = b\na = *m", "m", ""},
	} {
		g := lay(t, c.file, api.Config{Collapse: true})
		g.lookAhead()
		if got := g.text(&g.of(c.of).twins); got != c.want {
			t.Errorf("%q: the twins of %s are %q, want %q", c.file, c.of, got, c.want)
		}
		g = lay(t, c.file, api.Config{Cycles: true, Substitute: true, Deltas: true})
		g.lookAhead()
		if got := g.text(&g.of(c.of).twins); got != "" {
			t.Errorf("%q: the twins of %s are %q, without Collapse", c.file, c.of, got)
		}
	}
}

func TestTwinsOfWhatIsMergedAhead(t *testing.T) {
	for _, c := range []struct{ file, of, want string }{
		// h and k are the same, so that u goes out by one and back by the other.
		{"h = &v\nk = h\n*h = u\nu = *k", "k", "u"},
		// a stands for z as well.
		{"h = &v\nz = *h\na = z\n*h = a", "h", "a"},
		{"h = &v\nz = *h\na = z\n*h = z", "h", "a"},
	} {
		g := lay(t, c.file, api.Config{Collapse: true, Substitute: true})
		g.lookAhead()
		if got := g.text(&g.of(c.of).twins); got != c.want {
			t.Errorf("%q: the twins of %s are %q, want %q", c.file, c.of, got, c.want)
		}
	}
}

func TestNothingIsLeftLyingAbout(t *testing.T) {
	for _, file := range []string{
		"*u = h\nh = *u\nu = &u\nu = &a\na = &b",
		"*u = h\nh = *u\nu = &v\nu = &a\na = &b\nv = u\nh = v",
		"a = b\nb = c\nc = a\nc = &x\n*c = d\nd = *a\nx = &d\ne = x\nf = x",
		"z = y\ny = z\n*z = y\ny = *z\nz = &z\nz = &a\na = &q\n*q = z\nw = *q\nq = w",
	} {
		for k := range 48 {
			way := api.Config{Order: api.Order(k % 3), Cycles: k/3%2 > 0, Collapse: k/6%2 > 0, Substitute: k/12%2 > 0, Deltas: k/24 > 0}
			g := lay(t, file, way)
			g.solve()
			if got := g.waitingNames(); got != "" || !g.suspects.Empty() {
				t.Errorf("%q by %+v: %q waits", file, way, got)
			}
			for n := range g.nodes {
				it := &g.nodes[n]
				if g.same.Of(number(n)) != number(n) && !allEmpty(it) {
					t.Errorf("%q by %+v: %s is merged, and not cleared", file, way, g.names[n])
				}
				if way.Deltas != it.handed.Equal(&it.targets) && !it.targets.Empty() {
					t.Errorf("%q by %+v: of %s %q is handed on", file, way, g.names[n], g.text(&it.handed))
				}
			}
		}
	}
}

func allEmpty(it *node) bool {
	return it.targets.Empty() && it.handed.Empty() && it.heirs.Empty() && it.loads.Empty() && it.stores.Empty() && it.twins.Empty() && it.tried.Empty()
}

func TestCollapse(t *testing.T) {
	for _, deltas := range []bool{false, true} {
		for _, c := range []struct{ file, want string }{
			{"*h = u\nu = *h\nh = &v\nh = &w", "u v w"},
			{"*h = u\nu = *h\nh = &h", "h u"},
			{"*h = u\nu = *h\nk = &v\nh = k", "u v"},
			{"*h = u\nu = *h\n", ""},
			{"*n = a\nb = *n\n*m = b\na = *m\nn = &v\na = &x\nb = &y", ""},
		} {
			g := lay(t, c.file, api.Config{Collapse: true, Deltas: deltas})
			g.solve()
			if got := g.merged(); got != c.want {
				t.Errorf("%q: %q are merged, want %q", c.file, got, c.want)
			}
			g = lay(t, c.file, api.Config{Deltas: deltas})
			g.solve()
			if got := g.merged(); got != "" {
				t.Errorf("%q: %q are merged, without Collapse", c.file, got)
			}
		}
	}
}

func TestCycles(t *testing.T) {
	for _, deltas := range []bool{false, true} {
		for _, c := range []struct{ file, want string }{
			{"a = b\nb = c\nc = a\na = &x", "a b c"},
			{"a = b\nb = c\nc = a\na = &x\nd = a\nb = e\ne = &x", "a b c"},
			{"*h = u\nu = *h\nh = &v\nh = &w\nu = &x", "u v w"},
			{"*n = a\nb = *n\n*m = b\na = *m\nn = &v\nm = &w\na = &x", "a b v w"},
			{"p = &a\nq = &a\nq = p", ""},
			{"p = &a\nq = &b\nq = p\np = r\nr = s", ""},
			{"p = &p\np = p\n*p = p\np = *p", ""},
		} {
			g := lay(t, c.file, api.Config{Cycles: true, Deltas: deltas})
			g.solve()
			if got := g.merged(); got != c.want {
				t.Errorf("%q: %q are merged, want %q", c.file, got, c.want)
			}
			if !g.suspects.Empty() {
				t.Errorf("%q: %q are left suspected", c.file, g.text(&g.suspects))
			}
			g = lay(t, c.file, api.Config{Deltas: deltas})
			g.solve()
			if got := g.merged(); got != "" {
				t.Errorf("%q: %q are merged, without Cycles", c.file, got)
			}
		}
	}
}

func TestCyclesAreLookedForWhereNothingChanges(t *testing.T) {
	for _, c := range []struct {
		file string
		want bool
	}{
		{"p = &a\nq = &a\nq = p", true},
		{"p = &a\nq = p", false},
		{"p = &a\nq = &a\nq = &b\nq = p", false}, // nothing changes, but they differ
	} {
		g := lay(t, c.file, api.Config{Cycles: true})
		p, q := g.at("p"), g.at("q")
		g.work(p)
		if g.suspects.Has(p) != c.want || g.nodes[p].tried.Has(q) != c.want {
			t.Errorf("%q: a cycle is looked for: %v, want %v", c.file, g.suspects.Has(p), c.want)
		}
		g.lookForCycles()
		g.work(p)
		if c.want && g.suspects.Has(p) {
			t.Errorf("%q: a cycle is looked for again", c.file)
		}
	}
}

func TestMerge(t *testing.T) {
	g := lay(t, "a = &x\nb = &y\nc = a\nd = b\ne = *a\nf = *b\n*a = g\n*b = h", api.Config{Deltas: true})
	a, b := g.at("a"), g.at("b")
	g.nodes[a].targets.Add(g.at("y"))
	for _, n := range []number{a, b} {
		g.nodes[n].handed.Unite(&g.nodes[n].targets)
	}
	g.nodes[b].twins.Add(g.at("c"))
	g.nodes[b].tried.Add(g.at("d"))
	if got := g.waitingNames(); got != "a b" {
		t.Errorf("%q waits", got)
	}
	g.waiting.Add(b)
	if !g.merge(b, a) || g.merge(a, b) || g.merge(b, b) {
		t.Error("merged wrongly")
	}
	if g.unions != 1 {
		t.Errorf("%d mergings are counted, want 1", g.unions)
	}
	if got := g.waitingNames(); got != "a" {
		t.Errorf("%q waits, want a", got)
	}
	it := g.of("b")
	for i, c := range []struct {
		known, left *sets.Set[number]
		want        string
	}{
		{&it.targets, &g.nodes[b].targets, "x y"},
		{&it.handed, &g.nodes[b].handed, "y"},
		{&it.heirs, &g.nodes[b].heirs, "c d"},
		{&it.loads, &g.nodes[b].loads, "e f"},
		{&it.stores, &g.nodes[b].stores, "g h"},
		{&it.twins, &g.nodes[b].twins, "c"},
		{&it.tried, &g.nodes[b].tried, "d"},
	} {
		if got := g.text(c.known); got != c.want {
			t.Errorf("set %d: %q, want %q", i, got, c.want)
		}
		if !c.left.Empty() {
			t.Errorf("set %d: %q is left lying about", i, g.text(c.left))
		}
	}
}

func TestOnlyWhatIsNewIsHandedOn(t *testing.T) {
	for _, deltas := range []bool{false, true} {
		again := map[bool]string{false: "a b", true: "b"}[deltas]
		g := lay(t, "p = &a\nq = p\nr = &b", api.Config{Deltas: deltas})
		p, q := g.at("p"), g.at("q")
		g.work(p)
		if got := g.text(&g.nodes[q].targets); got != "a" {
			t.Errorf("Deltas %v: %q at first", deltas, got)
		}
		g.nodes[q].targets.Remove(g.at("a"))
		g.nodes[p].targets.Add(g.at("b"))
		g.work(p)
		if got := g.text(&g.nodes[q].targets); got != again {
			t.Errorf("Deltas %v: %q is handed on, want %q", deltas, got, again)
		}
		before := g.unions
		g.work(p)
		if (g.unions == before) != deltas {
			t.Errorf("Deltas %v: where nothing is new, %d sets are united", deltas, g.unions-before)
		}
	}
}

func TestNewHeirsGetWhatOthersHaveGot(t *testing.T) {
	for _, deltas := range []bool{false, true} {
		want := map[bool]string{false: "a b", true: "a"}[deltas]
		g := lay(t, "p = &a\nq = p\nz = &b", api.Config{Deltas: deltas})
		p, z := g.at("p"), g.at("z")
		g.work(p)
		g.nodes[p].targets.Add(g.at("b"))
		g.nodes[z].targets.Remove(g.at("b"))
		g.link(p, z)
		if got := g.text(&g.nodes[z].targets); got != want {
			t.Errorf("Deltas %v: the new heir gets %q, want %q", deltas, got, want)
		}
		before := g.unions
		g.link(p, z)
		g.link(p, p)
		g.link(z, p) // z is worth something without Deltas alone: it has handed on nothing
		if (g.unions == before) != deltas {
			t.Errorf("Deltas %v: %d more sets are united", deltas, g.unions-before)
		}
	}
}

func TestUnionsOfAFewFiles(t *testing.T) {
	for _, c := range []struct {
		file string
		way  api.Config
		want int
	}{
		{"", api.Config{}, 0},
		{"p = &a", api.Config{}, 0},
		{"p = &a\nq = p", api.Config{}, 1},
		{"p = &a\nq = p\nr = p", api.Config{}, 2},
		{"p = &a\nq = p\nr = p\nr = q", api.Config{}, 3},
		{"p = &a\nq = p", api.Config{Substitute: true}, 1}, // the merging
		{"p = q\nr = q", api.Config{Substitute: true}, 2},
		{"a = b\nb = a\na = &x", api.Config{}, 2},
		{"a = b\nb = a\na = &x", api.Config{Cycles: true}, 3},
		{"u = *h\n*h = u\nh = &v", api.Config{Collapse: true}, 1},
	} {
		r, e := Analyze(c.file, c.way)
		if r.Unions != c.want || e != (api.Error{}) {
			t.Errorf("%q by %+v: %d unions, want %d", c.file, c.way, r.Unions, c.want)
		}
	}
}

func TestNamesOf(t *testing.T) {
	list := []api.Fact{{Kind: api.Copy, P: "b", Q: "a"}, {Kind: api.Store, P: "a", Q: "C"}}
	if got := namesOf(list); !slices.Equal(got, []string{"C", "a", "b"}) {
		t.Errorf("%v", got)
	}
}
