package quern

import (
	"slices"
	"strings"
	"testing"

	"quern/api"
)

func sameRows(a, b []api.Row) bool {
	return slices.EqualFunc(a, b, func(x, y api.Row) bool { return x.Name == y.Name && slices.Equal(x.To, y.To) })
}

func TestReadAndTell(t *testing.T) {
	for _, c := range []struct {
		text string
		rows []api.Row
	}{
		{"", nil},
		{"a:\n", []api.Row{{Name: "a"}}},
		{"a: a\n", []api.Row{{Name: "a", To: []string{"a"}}}},
		{"b: a c\n", []api.Row{{Name: "b", To: []string{"a", "c"}}}},
		{"a: b c\nb:\nc: c\n", []api.Row{{Name: "a", To: []string{"b", "c"}}, {Name: "b"}, {Name: "c", To: []string{"c"}}}},
		{"A:\nZ9: A B0 B_ Ba _ a a0 aa\n_:\na:\na0:\naa:\n", []api.Row{{Name: "A"}, {Name: "Z9", To: []string{"A", "B0", "B_", "Ba", "_", "a", "a0", "aa"}}, {Name: "_"}, {Name: "a"}, {Name: "a0"}, {Name: "aa"}}},
		{widest + ": " + widest + "\n", []api.Row{{Name: widest, To: []string{widest}}}},
	} {
		got, e := Read(c.text)
		if !sameRows(got, c.rows) || e != (api.Error{}) {
			t.Errorf("P7: Read %q: %v, %v, want %v", c.text, got, e, c.rows)
		}
		s, e := Tell(c.rows)
		if s != c.text || e != (api.Error{}) {
			t.Errorf("P7: Tell %v: %q, %v, want %q", c.rows, s, e, c.text)
		}
	}
}

func checkReadError(t *testing.T, what, text string, want api.Error) {
	t.Helper()
	l, e := Read(text)
	if e != want || e.Kind != api.OK && l != nil {
		t.Errorf("P7: Read: %s: %d rows, %v, want %v", what, len(l), e, want)
	}
}

func checkTellError(t *testing.T, what string, l []api.Row, want api.Error) {
	t.Helper()
	s, e := Tell(l)
	if e != want || e.Kind != api.OK && s != "" {
		t.Errorf("P7: Tell: %s: %d bytes, %v, want %v", what, len(s), e, want)
	}
}

func TestReadForm(t *testing.T) {
	for _, line := range []string{
		"", " ", ":", "b", "b ", " b:", "b :", "b: ", "b:c", "b:  c", "b: c ", "b: c  d", "b:\tc", "b: c\td", "b::", "b: c:", "b: c: d", "b: :", "9:", "9b:", "b: 9", "b: 9c",
		"b: c\r", "b:\r", "b: c,d", "b: *c", "b: c # d", "#", "# b:", "b: \xc3\xa9", "b\x00:", "b: d c", "b: c c", "b: a c c", "b: a B", "b: aa a", "b: " + tooWide + " a",
	} {
		checkReadError(t, line, line+"\n", at(api.ErrForm, 1))
		checkReadError(t, line, "a:\nab: a\n"+line+"\n?\n", at(api.ErrForm, 3))
	}
}

func TestReadBehindLastNewline(t *testing.T) {
	for _, rest := range []string{"b", "b:", "b: c", " ", "?", "a:", tooWide + ":", "b: " + tooWide} {
		checkReadError(t, rest, rest, at(api.ErrForm, 1))
		checkReadError(t, rest, "a:\n"+rest, at(api.ErrForm, 2))
	}
	checkReadError(t, "the first line counts", "a:\nb: "+tooWide+"\nc", at(api.ErrName, 2))
}

func TestReadName(t *testing.T) {
	checkReadError(t, "row", tooWide+":\n", at(api.ErrName, 1))
	checkReadError(t, "first", "a: "+tooWide+" b\n", at(api.ErrName, 1))
	checkReadError(t, "last", "a:\nb: a "+tooWide+"\n?\n", at(api.ErrName, 2))
	checkReadError(t, "form ahead of name", tooWide+": b b\n", at(api.ErrForm, 1))
	checkReadError(t, "name ahead of order, in the row", "b:\n"+tooWide+":\n", at(api.ErrName, 2))
	checkReadError(t, "name ahead of order, behind", "b:\nb: "+tooWide+"\n", at(api.ErrName, 2))
}

func TestReadOrder(t *testing.T) {
	for _, c := range []struct{ text, what string }{
		{"b:\na:\n", "back"}, {"a:\na:\n", "twice"}, {"a:\nB:\n", "upper case is ahead"}, {"_:\nZ:\n", "the sign _ is behind upper case"}, {"aa:\na:\n", "the shorter is ahead"}, {"a_:\na9:\n", "digits are ahead"}, {"a: b\na: c\n?\n", "with names"},
	} {
		checkReadError(t, c.what, c.text, at(api.ErrForm, 2))
	}
	checkReadError(t, "third", "a:\nb:\na:\n", at(api.ErrForm, 3))
}

func TestTellForm(t *testing.T) {
	for _, n := range []string{"", " ", "9", "9a", "a b", " a", "a ", "a\n", "a:", "#", "*a", "\xff", "\u00e9", "a\x00"} {
		checkTellError(t, "row", []api.Row{{Name: n, To: []string{tooWide}}}, at(api.ErrForm, 1))
		checkTellError(t, "to", []api.Row{{Name: "a"}, {Name: tooWide, To: []string{"A", n}}, {}}, at(api.ErrForm, 2))
		checkTellError(t, "to, alone", []api.Row{{Name: "a", To: []string{n}}}, at(api.ErrForm, 1))
	}
	checkTellError(t, "to: back", []api.Row{{Name: tooWide, To: []string{"b", "a"}}}, at(api.ErrForm, 1))
	checkTellError(t, "to: twice", []api.Row{{Name: "a"}, {Name: "b", To: []string{"a", "c", "c"}}}, at(api.ErrForm, 2))
}

func TestTellName(t *testing.T) {
	checkTellError(t, "row", []api.Row{{Name: tooWide}, {}}, at(api.ErrName, 1))
	checkTellError(t, "first", []api.Row{{Name: "a", To: []string{tooWide, "b"}}}, at(api.ErrName, 1))
	checkTellError(t, "last", []api.Row{{Name: "a"}, {Name: "b", To: []string{"a", tooWide}}}, at(api.ErrName, 2))
	checkTellError(t, "name ahead of order", []api.Row{{Name: "b"}, {Name: tooWide}}, at(api.ErrName, 2))
}

func TestTellOrder(t *testing.T) {
	checkTellError(t, "back", []api.Row{{Name: "b"}, {Name: "a"}, {}}, at(api.ErrForm, 2))
	checkTellError(t, "twice", []api.Row{{Name: "a"}, {Name: "b"}, {Name: "b"}}, at(api.ErrForm, 3))
	checkTellError(t, "upper case", []api.Row{{Name: "a"}, {Name: "B"}}, at(api.ErrForm, 2))
}

// fullRows makes rows whose text has MaxText bytes.
func fullRows() []api.Row {
	var l []api.Row
	for i := range api.MaxText / len("n1000: abcdef abcdefghij\n") {
		l = append(l, api.Row{Name: name(900 + i), To: []string{"abcdef", "abcdefghij"}})
	}
	return l
}

func TestMaxText(t *testing.T) {
	l := fullRows()
	s, e := Tell(l)
	if len(s) != api.MaxText || e != (api.Error{}) {
		t.Fatalf("P7: at MaxText: %d bytes, %v", len(s), e)
	}
	if m, e := Read(s); !sameRows(l, m) || e != (api.Error{}) {
		t.Errorf("P7: at MaxText: %d rows, %v", len(m), e)
	}
	checkReadError(t, "above MaxText", s+"\n", at(api.ErrLong, 0))
	checkReadError(t, "above MaxText, all wrong", strings.Repeat("?", api.MaxText+1), at(api.ErrLong, 0))
	checkReadError(t, "at MaxText, all wrong", strings.Repeat("?", api.MaxText), at(api.ErrForm, 1))
	checkReadError(t, "at MaxText, wrong at the end", s[:len(s)-1]+"?", at(api.ErrForm, len(l)))
	last := len(l) - 1
	for _, row := range []api.Row{
		{Name: l[last].Name + "0", To: l[last].To},
		{Name: l[last].Name, To: []string{"abcdefg", "abcdefghij"}},
		{Name: l[last].Name, To: []string{"a", "abcd", "abcdefghijk"}},
	} {
		checkTellError(t, "above MaxText", append(l[:last:last], row), at(api.ErrLong, 0))
	}
	checkTellError(t, "a row more", append(l[:last+1:last+1], api.Row{Name: "z"}), at(api.ErrLong, 0))
	checkTellError(t, "form ahead of long", append(l[:last+1:last+1], api.Row{}), at(api.ErrForm, last+2))
	checkTellError(t, "name ahead of long", append(l[:last+1:last+1], api.Row{Name: tooWide}), at(api.ErrName, last+2))
	checkTellError(t, "order ahead of long", append(l[:last+1:last+1], l[last]), at(api.ErrForm, last+2))
}

func TestOneWideRow(t *testing.T) {
	row := api.Row{Name: "a"}
	for i := range 4160 {
		row.To = append(row.To, name(900+i))
	}
	s, e := Tell([]api.Row{row})
	if e != (api.Error{}) || len(s) != 24963 {
		t.Fatalf("P7: %d bytes, %v", len(s), e)
	}
	if l, e := Read(s); !sameRows(l, []api.Row{row}) || e != (api.Error{}) {
		t.Errorf("P7: %d rows, %v", len(l), e)
	}
	row.To = append(row.To, "z", widest+"z")
	checkTellError(t, "a name back in a wide row", []api.Row{row}, at(api.ErrForm, 1))
}
