package points

import (
	"slices"

	"quern/api"
	"quern/sets"
	"quern/waits"
)

// number stands for a name: its place among all names in their order, so that
// numbers in order are names in order.
type number uint

// node is what is known of a name.
type node struct {
	targets sets.Set[number] // what it may point to
	heirs   sets.Set[number] // those that may point to all that it may point to
	loads   sets.Set[number] // each p of a fact p = *q, where it is q
	stores  sets.Set[number] // each q of a fact *p = q, where it is p
}

// graph holds the names of a file, and which of them are to be worked at: those
// whose targets have grown.
type graph struct {
	nodes   []node
	waiting waits.Queue[number]
	unions  int
}

// newGraph lays out what facts say of names. What follows from it is not there yet.
func newGraph(list []api.Fact, names []string) *graph {
	g := &graph{nodes: make([]node, len(names))}
	for _, fact := range list {
		g.lay(fact.Kind, numberOf(fact.P, names), numberOf(fact.Q, names))
	}
	return g
}

func numberOf(name string, names []string) number {
	at, _ := slices.BinarySearch(names, name)
	return number(at)
}

func (g *graph) lay(kind api.Kind, p, q number) {
	switch kind {
	case api.Address:
		g.nodes[p].targets.Add(q)
		g.waiting.Add(p)
	case api.Copy:
		g.nodes[q].heirs.Add(p)
	case api.Load:
		g.nodes[q].loads.Add(p)
	case api.Store:
		g.nodes[p].stores.Add(q)
	}
}

// solve works until nothing more follows. It ends, since a name waits again only
// when its targets have grown.
func (g *graph) solve() {
	for n, ok := g.waiting.Next(); ok; n, ok = g.waiting.Next() {
		g.work(n)
	}
}

func (g *graph) work(n number) {
	it := &g.nodes[n]
	for target := range it.targets.All() {
		for p := range it.loads.All() {
			g.link(target, p)
		}
		for q := range it.stores.All() {
			g.link(q, target)
		}
	}
	for heir := range it.heirs.All() {
		g.unite(heir, n)
	}
}

// link makes a name the heir of another. What that one has by now goes over at
// once, as it may never grow again.
func (g *graph) link(from, heir number) {
	if g.nodes[from].heirs.Add(heir) {
		g.unite(heir, from)
	}
}

func (g *graph) unite(into, from number) {
	g.unions++
	if g.nodes[into].targets.Unite(&g.nodes[from].targets) {
		g.waiting.Add(into)
	}
}

// rows tells what has been found out, a row for each name.
func (g *graph) rows(names []string) []api.Row {
	var list []api.Row
	for n := range g.nodes {
		row := api.Row{Name: names[n]}
		for target := range g.nodes[n].targets.All() {
			row.To = append(row.To, names[target])
		}
		list = append(list, row)
	}
	return list
}
