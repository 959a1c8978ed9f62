package points

import (
	"quern/cycles"
	"quern/sets"
)

// part is what targets may be made up of, as far as facts show it ahead of all
// work: see partsOf.
type part uint

// substitute merges names that are the same: those whose targets are made up of
// the same parts. By a merging, parts may become the same that were not so, thus
// it looks again.
func (g *graph) substitute() {
	for g.mergeSame(g.partsOf()) {
	}
}

// mergeSame merges names that have the same parts, and tells whether there were any.
func (g *graph) mergeSame(parts []sets.Set[part]) bool {
	merged := false
	all := g.allStanding()
	for a := range all.All() {
		for b := range all.All() {
			if a < b && parts[a].Equal(&parts[b]) {
				merged = g.merge(a, b) || merged
			}
		}
	}
	return merged
}

// partsOf finds out of what the targets of each name are made up. A part is a name
// whose address is taken; or all that is stored into a name by way of *, which may
// happen where its address is taken; or all that is loaded by way of a name. Where
// a name has no part at all, it points to nothing, and nothing is loaded by way of it.
func (g *graph) partsOf() []sets.Set[part] {
	count := part(len(g.nodes))
	parts := make([]sets.Set[part], count)
	for n := range g.nodes {
		for target := range g.nodes[n].targets.All() {
			parts[n].Add(part(target))
			stored := g.same.Of(target)
			parts[stored].Add(count + part(stored))
		}
	}
	all := g.allStanding()
	for more := true; more; {
		more = false
		for n := range all.All() {
			more = g.handParts(parts, n, 2*count+part(n)) || more
		}
	}
	return parts
}

// handParts hands the parts of a name on to its heirs, and the part that is loaded
// by way of it to those that load it. It tells whether one was new to one of them.
func (g *graph) handParts(parts []sets.Set[part], n number, loaded part) bool {
	if parts[n].Empty() {
		return false
	}
	more := false
	heirs, loads := g.heirsOf(n), g.standing(&g.nodes[n].loads)
	for heir := range heirs.All() {
		more = parts[heir].Unite(&parts[n]) || more
	}
	for p := range loads.All() {
		more = parts[p].Add(loaded) || more
	}
	return more
}

// allStanding gives all names that stand for themselves, be it for others too.
func (g *graph) allStanding() sets.Set[number] {
	var found sets.Set[number]
	for n := range g.nodes {
		found.Add(g.same.Of(number(n)))
	}
	return found
}

// findTwins finds out for each name with which others each of its targets comes to
// the same.
func (g *graph) findTwins() {
	all := g.allStanding()
	for n := range all.All() {
		g.nodes[n].twins = g.twinsOf(n)
	}
}

// twinsOf looks for cycles that go by way of * of one name and by copies alone
// else: out by a fact r = *n, and back by a fact *n = q. A way by * of another name
// does not count, since there is none as long as that one has no targets.
func (g *graph) twinsOf(n number) sets.Set[number] {
	star := number(len(g.nodes)) // any target of n
	loads, stores := g.standing(&g.nodes[n].loads), g.standing(&g.nodes[n].stores)
	twins := cycles.Around(star, func(m number) sets.Set[number] {
		if m == star {
			return loads
		}
		next := g.heirsOf(m)
		if stores.Has(m) {
			next.Add(star)
		}
		return next
	})
	twins.Remove(star)
	return twins
}

// collapse merges targets of a name with its twins, and tells whether that was new.
func (g *graph) collapse(n number, targets *sets.Set[number]) bool {
	merged := false
	twins := g.nodes[n].twins.All() // as they are by now: n itself may be merged
	for target := range targets.All() {
		for twin := range twins {
			merged = g.merge(target, twin) || merged
		}
	}
	return merged
}
