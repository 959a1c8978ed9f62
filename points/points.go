// Package points finds out what each name of a file may point to.
package points

import (
	"slices"

	"quern/api"
	"quern/facts"
	"quern/rows"
)

// Analyze finds out what each name of a file may point to (P5).
func Analyze(file string, c api.Config) (api.Result, api.Error) {
	if !mayBe(c) {
		return api.Result{}, api.Error{Kind: api.ErrConfig}
	}
	list, err := facts.Parse(file)
	if err.Kind != api.OK {
		return api.Result{}, err
	}
	names := namesOf(list)
	g := newGraph(list, names, c)
	g.solve()
	return api.Result{Text: rows.Write(g.rows(names)), Unions: g.unions}, api.Error{}
}

func mayBe(c api.Config) bool {
	return api.First <= c.Order && c.Order <= api.Phases
}

// namesOf lists the names of facts in their order, each once.
func namesOf(list []api.Fact) []string {
	var names []string
	for _, fact := range list {
		names = append(names, fact.P, fact.Q)
	}
	slices.Sort(names)
	return slices.Compact(names)
}
