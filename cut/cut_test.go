package cut

import (
	"regexp"
	"testing"

	"quern/api"
)

const nameForm = `[A-Za-z_][A-Za-z_0-9]*`

// each calls f with all texts of at most that many bytes out of the alphabet.
func each(alphabet string, most int, f func(string)) {
	var grow func(text string)
	grow = func(text string) {
		f(text)
		if len(text) == most {
			return
		}
		for i := range len(alphabet) {
			grow(text + alphabet[i:i+1])
		}
	}
	grow("")
}

// slowFact reads a line by regular expressions alone, beside the machine.
func slowFact() func(line string) (api.Fact, bool) {
	comment := regexp.MustCompile(`(?s)#.*`)
	nothing := regexp.MustCompile(`^[ \t]*$`)
	forms := []struct {
		kind api.Kind
		form *regexp.Regexp
	}{
		{api.Address, regexp.MustCompile(`^[ \t]*(` + nameForm + `)[ \t]*=[ \t]*&[ \t]*(` + nameForm + `)[ \t]*$`)},
		{api.Copy, regexp.MustCompile(`^[ \t]*(` + nameForm + `)[ \t]*=[ \t]*(` + nameForm + `)[ \t]*$`)},
		{api.Load, regexp.MustCompile(`^[ \t]*(` + nameForm + `)[ \t]*=[ \t]*\*[ \t]*(` + nameForm + `)[ \t]*$`)},
		{api.Store, regexp.MustCompile(`^[ \t]*\*[ \t]*(` + nameForm + `)[ \t]*=[ \t]*(` + nameForm + `)[ \t]*$`)},
	}
	return func(line string) (api.Fact, bool) {
		line = comment.ReplaceAllString(line, "")
		if nothing.MatchString(line) {
			return api.Fact{}, true
		}
		for _, f := range forms {
			if m := f.form.FindStringSubmatch(line); m != nil {
				return api.Fact{Kind: f.kind, P: m[1], Q: m[2]}, true
			}
		}
		return api.Fact{}, false
	}
}

func TestFactAgainstExpressions(t *testing.T) {
	slow := slowFact()
	facts := 0
	each("aZ7 =&*#", 6, func(line string) {
		want, fine := slow(line)
		got, ok := Fact(line)
		if got != want || ok != fine {
			t.Errorf("%q: %v, %v, want %v, %v", line, got, ok, want, fine)
		}
		if got.Kind != Nothing {
			facts++
		}
	})
	if facts == 0 {
		t.Error("no line said a fact")
	}
}

func TestFactEveryByte(t *testing.T) {
	slow := slowFact()
	for c := range 256 {
		b := string([]byte{byte(c)})
		for _, line := range []string{b, b + "p = q", "p" + b + "= q", "p" + b + "x = q", "p =" + b + "q", "p = q" + b, "p = " + b, "p = q #" + b} {
			want, fine := slow(line)
			if got, ok := Fact(line); got != want || ok != fine {
				t.Errorf("%q: %v, %v, want %v, %v", line, got, ok, want, fine)
			}
		}
	}
}

func TestRowAgainstExpressions(t *testing.T) {
	whole := regexp.MustCompile(`^` + nameForm + `:( ` + nameForm + `)*$`)
	names := regexp.MustCompile(nameForm)
	look := func(line string) {
		var want []string
		if whole.MatchString(line) {
			want = names.FindAllString(line, -1)
		}
		row, ok := Row(line)
		var got []string
		if ok {
			got = append([]string{row.Name}, row.To...)
		} else if row.Name != "" || row.To != nil {
			t.Errorf("%q: %v beside false", line, row)
		}
		if len(got) != len(want) {
			t.Errorf("%q: %q, want %q", line, got, want)
			return
		}
		for i := range got {
			if got[i] != want[i] {
				t.Errorf("%q: %q, want %q", line, got, want)
			}
		}
	}
	each("a_7: ", 7, look)
	for c := range 256 {
		b := string([]byte{byte(c)})
		for _, line := range []string{b, b + ":", "a" + b, "a" + b + ":", "a:" + b, "a:" + b + "b", "a: " + b, "a: b" + b, "a: b" + b + "c"} {
			look(line)
		}
	}
}

func TestIsName(t *testing.T) {
	whole := regexp.MustCompile(`^` + nameForm + `$`)
	look := func(text string) {
		if got := IsName(text); got != whole.MatchString(text) {
			t.Errorf("%q: %v", text, got)
		}
	}
	each("aZ_09 =\n", 4, look)
	for c := range 256 {
		b := string([]byte{byte(c)})
		look(b)
		look("a" + b)
		look("a" + b + "a")
	}
	look("abcdefghijklmnopqrstuvwxyz")
}
