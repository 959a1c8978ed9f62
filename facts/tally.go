package facts

import "quern/api"

// tally counts facts and their names: Parse and Print hold both to the same
// limits, in the same order.
type tally struct {
	facts int
	names map[string]struct{}
}

func newTally() *tally {
	return &tally{names: map[string]struct{}{}}
}

// add counts one more fact, and tells which limit it goes beyond first.
func (t *tally) add(fact api.Fact) api.Errno {
	if len(fact.P) > api.MaxName || len(fact.Q) > api.MaxName {
		return api.ErrName
	}
	if t.facts == api.MaxFacts {
		return api.ErrMany
	}
	t.facts++
	t.names[fact.P] = struct{}{}
	t.names[fact.Q] = struct{}{}
	if len(t.names) > api.MaxNames {
		return api.ErrFull
	}
	return api.OK
}
