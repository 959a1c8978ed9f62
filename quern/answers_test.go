package quern

import (
	"slices"
	"strings"
	"testing"

	"quern/api"
)

const (
	someFile = "x = y # and back\n\ny=x\n*x=x\nx=&x\nz = *y"
	someText = "a: b c d\nb: a b c\nc:\nd: a\n"
)

func cloneRows(l []api.Row) []api.Row {
	m := slices.Clone(l)
	for i := range m {
		m[i].To = slices.Clone(m[i].To)
	}
	return m
}

func TestParseAnswersNewMemory(t *testing.T) {
	l, _ := Parse(someFile)
	want := slices.Clone(l)
	for _, f := range l {
		if shares(f.P, someFile) || shares(f.Q, someFile) {
			t.Errorf("P2: %v shares memory with the file", f)
		}
	}
	m, _ := Parse(someFile)
	clear(l[:cap(l)])
	if !slices.Equal(m, want) {
		t.Errorf("P2: %v changed with an earlier answer, want %v", m, want)
	}
	if m, _ := Parse(someFile); !slices.Equal(m, want) {
		t.Errorf("P2: %v, at first %v", m, want)
	}
}

func TestReadAnswersNewMemory(t *testing.T) {
	l, _ := Read(someText)
	want := cloneRows(l)
	for _, r := range l {
		for _, n := range append([]string{r.Name}, r.To...) {
			if shares(n, someText) {
				t.Errorf("P2: %q shares memory with the text", n)
			}
		}
	}
	for i := range l { // filling the spare room of a list reaches no other list
		room := l[i].To[len(l[i].To):cap(l[i].To)]
		for j := range room {
			room[j] = "spare"
		}
	}
	if !sameRows(l, want) {
		t.Errorf("P2: %v, want %v: lists share memory", l, want)
	}
	for i := range l {
		m := cloneRows(l)
		clear(l[i].To)
		m[i].To = make([]string, len(m[i].To))
		if !sameRows(l, m) {
			t.Errorf("P2: row %d shares memory with another", i)
		}
	}
	clear(l[:cap(l)])
	if m, _ := Read(someText); !sameRows(m, want) {
		t.Errorf("P2: %v, at first %v", m, want)
	}
}

func TestPrintLeavesItsList(t *testing.T) {
	list := append(make([]api.Fact, 0, 9), api.Fact{Kind: api.Store, P: "z", Q: "b"}, api.Fact{Kind: api.Copy, P: "a", Q: "b"})
	want := slices.Clone(list[:9])
	s, _ := Print(list)
	if !slices.Equal(list[:9], want) {
		t.Errorf("P2: %v, was %v", list[:9], want)
	}
	clear(list)
	if s != "*z = b\na = b\n" {
		t.Errorf("P2: %q changed with the list", s)
	}
	if again, _ := Print(want[:2]); again != s {
		t.Errorf("P2: %q, at first %q", again, s)
	}
}

func TestTellLeavesItsList(t *testing.T) {
	shared := append(make([]string, 0, 5), "a", "b", "c")
	list := append(make([]api.Row, 0, 5), api.Row{Name: "a", To: shared}, api.Row{Name: "b", To: shared[:1]}, api.Row{Name: "c", To: shared[1:]})
	want := cloneRows(list[:5])
	s, _ := Tell(list)
	if s != "a: a b c\nb: a\nc: b c\n" {
		t.Errorf("P7: %q", s)
	}
	if !sameRows(list[:5], want) || !slices.Equal(shared[:5], []string{"a", "b", "c", "", ""}) {
		t.Errorf("P2: %v, was %v", list[:5], want)
	}
	if again, _ := Tell(want[:3]); again != s {
		t.Errorf("P2: %q, at first %q", again, s)
	}
}

func TestWrongArgumentsAnswerNothing(t *testing.T) {
	texts := []string{"", "\x00", "\xff\xfe", strings.Repeat("\n", 100000), strings.Repeat("a = b\n", 100000), strings.Repeat("a:\n", 100000), strings.Repeat("a", 1<<20)}
	for c := range 256 {
		for _, n := range []int{1, 2, 79, 80, 81} {
			texts = append(texts, strings.Repeat(string([]byte{byte(c)}), n))
		}
	}
	for _, s := range texts {
		l, e := Parse(s)
		if e.Kind != api.OK && l != nil || e.Kind == api.OK && e.Line != 0 {
			t.Errorf("P1: Parse of %d bytes: %d facts, %v", len(s), len(l), e)
		}
		r, e := Read(s)
		if e.Kind != api.OK && r != nil || e.Kind == api.OK && e.Line != 0 {
			t.Errorf("P1: Read of %d bytes: %d rows, %v", len(s), len(r), e)
		}
		a, e := Analyze(s, api.Config{})
		if e.Kind != api.OK && a != (api.Result{}) || e.Kind == api.OK && e.Line != 0 {
			t.Errorf("P1: Analyze of %d bytes: %+v, %v", len(s), a, e)
		}
		p, e := Print([]api.Fact{{Kind: api.Copy, P: s, Q: s}})
		if e.Kind != api.OK && p != "" || e.Kind == api.OK && e.Line != 0 {
			t.Errorf("P1: Print of %d bytes: %q, %v", len(s), p, e)
		}
		p, e = Tell([]api.Row{{Name: s, To: []string{s}}})
		if e.Kind != api.OK && p != "" || e.Kind == api.OK && e.Line != 0 {
			t.Errorf("P1: Tell of %d bytes: %q, %v", len(s), p, e)
		}
	}
}
