// Package cut takes single lines apart: those of a file, and those of a solution.
package cut

import (
	"strings"

	"quern/api"
)

// Nothing is the kind of fact that a line of nothing says.
const Nothing api.Kind = 0

// nameMark stands for a name in the shape of a line, where a sign stands for itself.
const nameMark = 'n'

// Fact tells what a line of a file says: a fact, or one of the kind Nothing.
// The answer is false, if the line says neither.
func Fact(line string) (api.Fact, bool) {
	shape, names, ok := pieces(line)
	if !ok {
		return api.Fact{}, false
	}
	kind, ok := kindOf(shape)
	if !ok || kind == Nothing {
		return api.Fact{}, ok
	}
	return api.Fact{Kind: kind, P: names[0], Q: names[1]}, true
}

// pieces cuts a line of a file into its names and signs. The labels are the
// states of the machine: between the pieces, and within a name.
func pieces(line string) (string, []string, bool) {
	var shape []byte
	var names []string
	var at, from int
between:
	if at == len(line) {
		goto end
	}
	switch c := line[at]; {
	case c == '#':
		goto end
	case c == ' ' || c == '\t':
		goto next
	case c == '=' || c == '&' || c == '*':
		shape = append(shape, c)
		goto next
	case begins(c):
		from = at
		goto name
	}
	return "", nil, false
next:
	at++
	goto between
name:
	at++
	if at < len(line) && goesOn(line[at]) {
		goto name
	}
	shape = append(shape, nameMark)
	// A clone, since a piece of the line would keep the whole file.
	names = append(names, strings.Clone(line[from:at]))
	goto between
end:
	return string(shape), names, true
}

func kindOf(shape string) (api.Kind, bool) {
	switch shape {
	case "":
		return Nothing, true
	case "n=&n":
		return api.Address, true
	case "n=n":
		return api.Copy, true
	case "n=*n":
		return api.Load, true
	case "*n=n":
		return api.Store, true
	}
	return Nothing, false
}

// Row takes a line of a solution apart. The answer is false, if it is not a name,
// a colon, and blanks with a name each; the order of the names is not looked at.
// The labels are the states of the machine: ahead of a name, within it, behind
// one that is pointed to, and where the line may end.
func Row(line string) (api.Row, bool) {
	var row api.Row
	var at, from int
name:
	if at == len(line) || !begins(line[at]) {
		goto wrong
	}
	from = at
letter:
	at++
	if at < len(line) && goesOn(line[at]) {
		goto letter
	}
	if row.Name != "" {
		goto target
	}
	row.Name = strings.Clone(line[from:at])
	if at == len(line) || line[at] != ':' {
		goto wrong
	}
	at++
	goto gap
target:
	row.To = append(row.To, strings.Clone(line[from:at]))
gap:
	if at == len(line) {
		return row, true
	}
	if line[at] == ' ' {
		at++
		goto name
	}
wrong:
	return api.Row{}, false
}

// IsName tells whether a text is a name, of whatever length.
func IsName(text string) bool {
	if text == "" || !begins(text[0]) {
		return false
	}
	for at := 1; at < len(text); at++ {
		if !goesOn(text[at]) {
			return false
		}
	}
	return true
}

func begins(c byte) bool {
	return 'a' <= c && c <= 'z' || 'A' <= c && c <= 'Z' || c == '_'
}

func goesOn(c byte) bool {
	return begins(c) || '0' <= c && c <= '9'
}
