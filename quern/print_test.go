package quern

import (
	"math"
	"slices"
	"testing"

	"quern/api"
)

func TestPrintLines(t *testing.T) {
	l := []api.Fact{{Kind: api.Store, P: "p", Q: "q"}, {Kind: api.Address, P: "p", Q: "q"}, {Kind: api.Load, P: "q", Q: "_9"}, {Kind: api.Copy, P: widest, Q: "p"}, {Kind: api.Copy, P: widest, Q: "p"}}
	want := "*p = q\np = &q\nq = *_9\n" + widest + " = p\n" + widest + " = p\n"
	if s, e := Print(l); s != want || e != (api.Error{}) {
		t.Errorf("P4: %q, %v, want %q", s, e, want)
	}
	for _, l := range [][]api.Fact{nil, {}} {
		if s, e := Print(l); s != "" || e != (api.Error{}) {
			t.Errorf("P4: no facts: %q, %v", s, e)
		}
	}
}

func checkPrintError(t *testing.T, what string, l []api.Fact, want api.Error) {
	t.Helper()
	s, e := Print(l)
	if e != want || e.Kind != api.OK && s != "" {
		t.Errorf("P4: %s: %q, %v, want %v", what, s, e, want)
	}
}

func TestPrintForm(t *testing.T) {
	fine := api.Fact{Kind: api.Copy, P: "p", Q: "q"}
	for _, k := range []api.Kind{0, -1, 5, math.MinInt, math.MaxInt} {
		checkPrintError(t, "kind", []api.Fact{{Kind: k, P: "p", Q: "q"}}, at(api.ErrForm, 1))
		checkPrintError(t, "kind ahead of name", []api.Fact{fine, {Kind: k, P: tooWide, Q: "q"}, {}}, at(api.ErrForm, 2))
	}
	for _, n := range []string{"", " ", "9", "9a", "a b", " a", "a ", "a\n", "#", "a#", "&a", "*a", "a=", "a-b", "\xff", "\u00e9", "a\x00"} {
		for k := api.Address; k <= api.Store; k++ {
			checkPrintError(t, "p", []api.Fact{fine, {Kind: k, P: n, Q: tooWide}}, at(api.ErrForm, 2))
			checkPrintError(t, "q", []api.Fact{{Kind: k, P: tooWide, Q: n}, fine}, at(api.ErrForm, 1))
		}
	}
}

func TestPrintName(t *testing.T) {
	for k := api.Address; k <= api.Store; k++ {
		checkPrintError(t, "at MaxName", []api.Fact{{Kind: k, P: widest, Q: widest}}, api.Error{})
		checkPrintError(t, "p", []api.Fact{{Kind: k, P: tooWide, Q: "q"}, {}}, at(api.ErrName, 1))
		checkPrintError(t, "q", []api.Fact{{Kind: k, P: "p", Q: "q"}, {Kind: k, P: "p", Q: tooWide}}, at(api.ErrName, 2))
	}
}

func TestPrintMany(t *testing.T) {
	full := factsOf(api.MaxFacts, func(i int) api.Fact { return api.Fact{Kind: api.Copy, P: "a", Q: name(i % (api.MaxNames - 1))} })
	with := func(f ...api.Fact) []api.Fact { return slices.Concat(full, f) }
	next := api.MaxFacts + 1
	checkPrintError(t, "at MaxFacts", full, api.Error{})
	checkPrintError(t, "above MaxFacts", with(full[0]), at(api.ErrMany, next))
	checkPrintError(t, "the first fact counts", with(full[0], api.Fact{}), at(api.ErrMany, next))
	checkPrintError(t, "many ahead of full", with(api.Fact{Kind: api.Load, P: "x", Q: "y"}), at(api.ErrMany, next))
	checkPrintError(t, "name ahead of many", with(api.Fact{Kind: api.Load, P: "x", Q: tooWide}), at(api.ErrName, next))
	checkPrintError(t, "form ahead of many", with(api.Fact{Kind: api.Load, P: "x y", Q: tooWide}), at(api.ErrForm, next))
}

func TestPrintFull(t *testing.T) {
	full := factsOf(api.MaxNames-1, func(i int) api.Fact { return api.Fact{Kind: api.Address, P: "a", Q: name(i)} })
	with := func(f ...api.Fact) []api.Fact { return slices.Concat(full, f) }
	next := api.MaxNames
	checkPrintError(t, "at MaxNames", full, api.Error{})
	checkPrintError(t, "no new name", with(api.Fact{Kind: api.Store, P: name(0), Q: name(1)}), api.Error{})
	checkPrintError(t, "p new", with(api.Fact{Kind: api.Store, P: "x", Q: "a"}, api.Fact{}), at(api.ErrFull, next))
	checkPrintError(t, "q new", with(full[0], api.Fact{Kind: api.Load, P: "a", Q: "x"}), at(api.ErrFull, next+1))
	checkPrintError(t, "name ahead of full", with(api.Fact{Kind: api.Load, P: "x", Q: tooWide}), at(api.ErrName, next))
}

func TestPrintedIsParsed(t *testing.T) {
	l := factsOf(api.MaxFacts, func(i int) api.Fact {
		return api.Fact{Kind: api.Kind(1 + i%4), P: "abcdefgh" + name(i%20), Q: "Zbcdefgh" + name(i%20)}
	})
	s, e := Print(l)
	m, f := Parse(s)
	if e != (api.Error{}) || f != (api.Error{}) || !slices.Equal(l, m) {
		t.Errorf("P4: %v, %v, %v, want %v", e, f, m, l)
	}
}
