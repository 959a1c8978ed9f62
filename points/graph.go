package points

import (
	"slices"

	"quern/api"
	"quern/same"
	"quern/sets"
	"quern/waits"
)

// number stands for a name: its place among all names in their order, so that
// numbers in order are names in order.
type number uint

// node is what is known of a name, or of all names that are told to be the same:
// then the node of the one that stands for them holds it, and those of the others
// are empty.
type node struct {
	targets sets.Set[number] // what it may point to
	handed  sets.Set[number] // with Deltas: those targets that are worked at already
	heirs   sets.Set[number] // those that may point to all that it may point to
	loads   sets.Set[number] // each p of a fact p = *q, where it is q
	stores  sets.Set[number] // each q of a fact *p = q, where it is p
	twins   sets.Set[number] // with Collapse: those that each of its targets comes to the same with
	tried   sets.Set[number] // with Cycles: those heirs by way of which a cycle was looked for
}

// graph holds the names of a file, and which of them are to be worked at: those
// whose targets have grown. Only one that stands for its like waits there.
type graph struct {
	way      api.Config
	nodes    []node
	same     same.Classes[number]
	waiting  *waits.Line[number]
	suspects sets.Set[number] // with Cycles: those around which a cycle is to be looked for
	unions   int              // how often targets were united with others
}

// newGraph lays out what facts say of names. What follows from it is not there yet.
func newGraph(list []api.Fact, names []string, way api.Config) *graph {
	g := &graph{way: way, nodes: make([]node, len(names)), waiting: waits.New[number](way.Order)}
	for _, fact := range list {
		g.lay(fact.Kind, numberOf(fact.P, names), numberOf(fact.Q, names))
	}
	// By number, since the order of lines is to change nothing.
	for n := range g.nodes {
		if !g.nodes[n].targets.Empty() {
			g.waiting.Add(number(n))
		}
	}
	return g
}

func numberOf(name string, names []string) number {
	at, _ := slices.BinarySearch(names, name)
	return number(at)
}

func (g *graph) lay(kind api.Kind, p, q number) {
	switch kind {
	case api.Address:
		g.nodes[p].targets.Add(q)
	case api.Copy:
		g.nodes[q].heirs.Add(p)
	case api.Load:
		g.nodes[q].loads.Add(p)
	case api.Store:
		g.nodes[p].stores.Add(q)
	}
}

// solve works until nothing more follows. It ends, since a name waits again only
// when its targets have grown, or when it was merged with another.
func (g *graph) solve() {
	g.lookAhead()
	for n, ok := g.waiting.Next(); ok; n, ok = g.waiting.Next() {
		g.work(n)
		g.lookForCycles()
	}
}

// lookAhead finds out what can be known ahead of all work.
func (g *graph) lookAhead() {
	if g.way.Substitute {
		g.substitute()
	}
	if g.way.Collapse {
		g.findTwins()
	}
}

func (g *graph) work(n number) {
	it := &g.nodes[n]
	fresh := it.targets.Without(&it.handed)
	if fresh.Empty() {
		return
	}
	if g.collapse(n, &fresh) {
		// It may itself be merged by now, and have more targets.
		g.waiting.Add(g.same.Of(n))
		return
	}
	for target := range fresh.All() {
		for p := range it.loads.All() {
			g.link(target, p)
		}
		for q := range it.stores.All() {
			g.link(q, target)
		}
	}
	heirs := g.heirsOf(n)
	for heir := range heirs.All() {
		g.hand(&fresh, n, heir)
	}
	if g.way.Deltas {
		it.handed.Unite(&fresh)
	}
}

// link makes a name the heir of another. What that one has by now goes over at
// once, as it may never grow again; with Deltas only what it has handed on, as the
// rest is still to come.
func (g *graph) link(from, heir number) {
	from, heir = g.same.Of(from), g.same.Of(heir)
	if from == heir || !g.nodes[from].heirs.Add(heir) {
		return
	}
	now := &g.nodes[from].targets
	if g.way.Deltas {
		now = &g.nodes[from].handed
	}
	if !now.Empty() {
		g.hand(now, from, heir)
	}
}

// hand hands targets of a name on to an heir of it.
func (g *graph) hand(targets *sets.Set[number], from, heir number) {
	g.unions++
	if g.nodes[heir].targets.Unite(targets) {
		g.waiting.Add(heir)
	} else if g.way.Cycles {
		g.suspect(from, heir)
	}
}

// heirsOf gives the heirs of a name, each once, by those that stand for them, and
// not the name itself.
func (g *graph) heirsOf(n number) sets.Set[number] {
	heirs := g.standing(&g.nodes[n].heirs)
	heirs.Remove(n)
	return heirs
}

// standing gives those that stand for the names of a set.
func (g *graph) standing(names *sets.Set[number]) sets.Set[number] {
	var found sets.Set[number]
	for n := range names.All() {
		found.Add(g.same.Of(n))
	}
	return found
}

// rows tells what has been found out, a row for each name.
func (g *graph) rows(names []string) []api.Row {
	var list []api.Row
	for n, name := range names {
		row := api.Row{Name: name}
		for target := range g.nodes[g.same.Of(number(n))].targets.All() {
			row.To = append(row.To, names[target])
		}
		list = append(list, row)
	}
	return list
}
