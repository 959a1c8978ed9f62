package quern

import (
	"slices"
	"strings"
	"testing"

	"quern/api"
)

func TestParseFacts(t *testing.T) {
	for _, c := range []struct {
		file string
		want []api.Fact
	}{
		{"", nil},
		{"\n", nil},
		{" \t \n#\n\t# p = q\n", nil},
		{"p = &q", []api.Fact{{Kind: api.Address, P: "p", Q: "q"}}},
		{"p = q", []api.Fact{{Kind: api.Copy, P: "p", Q: "q"}}},
		{"p = *q", []api.Fact{{Kind: api.Load, P: "p", Q: "q"}}},
		{"*p = q", []api.Fact{{Kind: api.Store, P: "p", Q: "q"}}},
		{"p=&q", []api.Fact{{Kind: api.Address, P: "p", Q: "q"}}},
		{"p=q", []api.Fact{{Kind: api.Copy, P: "p", Q: "q"}}},
		{"p=*q", []api.Fact{{Kind: api.Load, P: "p", Q: "q"}}},
		{"*p=q", []api.Fact{{Kind: api.Store, P: "p", Q: "q"}}},
		{"\t p \t= \t&\t q \t#&", []api.Fact{{Kind: api.Address, P: "p", Q: "q"}}},
		{" *\tp =\tq ", []api.Fact{{Kind: api.Store, P: "p", Q: "q"}}},
		{"_ = Az09_", []api.Fact{{Kind: api.Copy, P: "_", Q: "Az09_"}}},
		{"p = p", []api.Fact{{Kind: api.Copy, P: "p", Q: "p"}}},
		{"p = q#r", []api.Fact{{Kind: api.Copy, P: "p", Q: "q"}}},
		{"p = q # \xff\x00?" + tooWide, []api.Fact{{Kind: api.Copy, P: "p", Q: "q"}}},
		{"b = a\n\na = &b\nb = a\n", []api.Fact{{Kind: api.Copy, P: "b", Q: "a"}, {Kind: api.Address, P: "a", Q: "b"}, {Kind: api.Copy, P: "b", Q: "a"}}},
	} {
		got, e := Parse(c.file)
		if !slices.Equal(got, c.want) || e != (api.Error{}) {
			t.Errorf("P3: %q: %v, %v, want %v", c.file, got, e, c.want)
		}
	}
}

func checkParseError(t *testing.T, what, file string, want api.Error) {
	t.Helper()
	l, e := Parse(file)
	if e != want || e.Kind != api.OK && l != nil {
		t.Errorf("P3: %s: %d facts, %v, want %v", what, len(l), e, want)
	}
}

func TestParseForm(t *testing.T) {
	for _, line := range []string{
		"p", "=", "&", "*", "p =", "= q", "p q", "p = q r", "p q = r", "p = q = r", "p == q", "p = && q", "p = ** q", "p = &* q", "** p = q",
		"& p = q", "* p = & q", "* p = * q", "p * = q", "p = q *", "p = q &", "p & q", "p * q", "9 = q", "9p = q", "p = 9", "p = 9q", "p = q 9",
		"p = q\r", "p = q;", "p = q\x00", "p\v= q", "p = \xc3\xa9", "p = q\xff", "p # = q", "p = # q", "-", "p - q", "p: q", ".", "p = q // r",
	} {
		checkParseError(t, line, line, at(api.ErrForm, 1))
		checkParseError(t, line, "a = b\n\n"+line+"\n?\n", at(api.ErrForm, 3))
	}
}

func TestParseLong(t *testing.T) {
	file := fill("p = q\n", api.MaxFile)
	checkParseError(t, "at MaxFile", file, api.Error{})
	checkParseError(t, "above MaxFile", file+"\n", at(api.ErrLong, 0))
	checkParseError(t, "above MaxFile, all wrong", strings.Repeat("?", api.MaxFile+1), at(api.ErrLong, 0))
	checkParseError(t, "at MaxFile, all wrong", strings.Repeat("?", api.MaxFile), at(api.ErrWide, 1))
	checkParseError(t, "lines of nothing alone", strings.Repeat("\n", api.MaxFile), api.Error{})
	checkParseError(t, "wrong in the last line", strings.Repeat("\n", api.MaxFile-1)+"?", at(api.ErrForm, api.MaxFile))
}

func TestParseWide(t *testing.T) {
	pad := func(text, with string, size int) string { return text + strings.Repeat(with, size-len(text)) }
	for _, c := range []struct{ text, with string }{{"", " "}, {"", "\t"}, {"#", "?"}, {"p = q", " "}, {"p = q #", "x"}} {
		checkParseError(t, "at MaxLine", pad(c.text, c.with, api.MaxLine), api.Error{})
		checkParseError(t, "at MaxLine, ended", "\n"+pad(c.text, c.with, api.MaxLine)+"\n", api.Error{})
		checkParseError(t, "above MaxLine", pad(c.text, c.with, api.MaxLine+1), at(api.ErrWide, 1))
		checkParseError(t, "above MaxLine, ended", "\n"+pad(c.text, c.with, api.MaxLine+1)+"\n?", at(api.ErrWide, 2))
	}
	checkParseError(t, "wide ahead of form", pad("p = ?", "?", api.MaxLine+1), at(api.ErrWide, 1))
	checkParseError(t, "wide ahead of name", pad("p = ", "q", api.MaxLine+1), at(api.ErrWide, 1))
	checkParseError(t, "wide ahead of many", copies(api.MaxFacts)+pad("p = q", " ", api.MaxLine+1), at(api.ErrWide, api.MaxFacts+1))
	checkParseError(t, "the first line counts", "?\n"+pad("", " ", api.MaxLine+1), at(api.ErrForm, 1))
}

func TestParseName(t *testing.T) {
	for _, c := range []struct{ ahead, between, behind string }{
		{"", " = & q", ""}, {"", " = q", ""}, {"", " = * q", ""}, {"*", " = q", ""},
		{"p = &", "", ""}, {"p =", "", " "}, {"p = *", "", "#"}, {"* p = ", "", "\t"},
	} {
		checkParseError(t, "at MaxName", c.ahead+widest+c.between+c.behind, api.Error{})
		checkParseError(t, "above MaxName", c.ahead+tooWide+c.between+c.behind, at(api.ErrName, 1))
	}
	checkParseError(t, "form ahead of name", tooWide+" = a b", at(api.ErrForm, 1))
	checkParseError(t, "a name alone", tooWide, at(api.ErrForm, 1))
	checkParseError(t, "name ahead of many", copies(api.MaxFacts)+"a = "+tooWide, at(api.ErrName, api.MaxFacts+1))
	checkParseError(t, "the first line counts", "\na = "+tooWide+"\n?", at(api.ErrName, 2))
	checkParseError(t, "a name that counts for nothing", "a = b # "+tooWide, api.Error{})
}

func TestParseMany(t *testing.T) {
	full := copies(api.MaxFacts)
	checkParseError(t, "at MaxFacts", full, api.Error{})
	checkParseError(t, "lines of nothing behind", full+"\n # a = b\n\n", api.Error{})
	checkParseError(t, "above MaxFacts", full+"a = b", at(api.ErrMany, api.MaxFacts+1))
	checkParseError(t, "lines of nothing between", "\n"+full+"\n#\na = b\n?", at(api.ErrMany, api.MaxFacts+4))
	checkParseError(t, "form ahead of many", full+"a = b c", at(api.ErrForm, api.MaxFacts+1))
	var names string
	for i := range api.MaxNames / 2 {
		names += name(2*i) + " = " + name(2*i+1) + "\n"
	}
	names += strings.Repeat(name(0)+" = "+name(1)+"\n", api.MaxFacts-api.MaxNames/2)
	checkParseError(t, "all full", names, api.Error{})
	checkParseError(t, "many ahead of full", names+"x = y", at(api.ErrMany, api.MaxFacts+1))
}

func TestParseFull(t *testing.T) {
	names := "a = a\n"
	for i := range api.MaxNames - 2 {
		names += "a = &" + name(i) + "\n"
	}
	next := api.MaxNames
	checkParseError(t, "at MaxNames", names+"a = x", api.Error{})
	checkParseError(t, "at MaxNames, by p", names+"*x = a", api.Error{})
	checkParseError(t, "at MaxNames, by p and q", names+"x = x", api.Error{})
	checkParseError(t, "names that count for nothing", names+"x = a # y z\n# u v\n", api.Error{})
	checkParseError(t, "both new", names+"x = y", at(api.ErrFull, next))
	checkParseError(t, "q new", names+"a = x\na = *y\n?", at(api.ErrFull, next+1))
	checkParseError(t, "p new", names+"a = x\n\n*y = a", at(api.ErrFull, next+2))
	checkParseError(t, "names in upper case are others", names+"a = x\nA = x", at(api.ErrFull, next+1))
	checkParseError(t, "name ahead of full", names+"x = "+tooWide, at(api.ErrName, next))
	checkParseError(t, "form ahead of full", names+"x = y z", at(api.ErrForm, next))
}
