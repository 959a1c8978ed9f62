package points

import "quern/cycles"

// merge makes one of two names that come to the same in the end: one of them
// stands for both from then on, and waits, as the heirs of either may lack the
// targets of the other. It tells whether they were two.
func (g *graph) merge(a, b number) bool {
	stays, goes, isNew := g.same.Join(a, b)
	if !isNew {
		return false
	}
	defer func() {
		g.unions++
		g.nodes[goes] = node{}
		g.waiting.Drop(goes)
	}()
	one, other := &g.nodes[stays], &g.nodes[goes]
	one.targets.Unite(&other.targets)
	// What only one of them has worked at, is new to what is known of the other.
	one.handed.Meet(&other.handed)
	one.heirs.Unite(&other.heirs)
	one.loads.Unite(&other.loads)
	one.stores.Unite(&other.stores)
	one.twins.Unite(&other.twins)
	one.tried.Unite(&other.tried)
	g.waiting.Add(stays)
	return true
}

// suspect is told of a name whose targets have changed nothing at an heir. In a
// cycle all names come to the same targets, so that it is looked for where the two
// have the same already; but for each heir once, as there may be none.
func (g *graph) suspect(from, heir number) {
	it := &g.nodes[from]
	if it.targets.Equal(&g.nodes[heir].targets) && it.tried.Add(heir) {
		g.suspects.Add(from)
	}
}

// lookForCycles merges the names of all cycles around those that are suspected.
// Around one that is merged meanwhile there is nothing more to be found: it was on
// the cycle of the other.
func (g *graph) lookForCycles() {
	for n := range g.suspects.All() {
		g.suspects.Remove(n)
		around := cycles.Around(n, g.heirsOf)
		for m := range around.All() {
			g.merge(n, m)
		}
	}
}
