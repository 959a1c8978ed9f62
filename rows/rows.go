// Package rows reads a solution's text as rows, and writes rows as such a text.
package rows

import (
	"strings"

	"quern/api"
	"quern/cut"
)

// Read reads a solution (P7).
func Read(text string) ([]api.Row, api.Error) {
	if len(text) > api.MaxText {
		return nil, api.Error{Kind: api.ErrLong}
	}
	lines := strings.Split(text, "\n")
	last := len(lines) - 1
	var list []api.Row
	ahead := ""
	for i, line := range lines[:last] {
		row, ok := cut.Row(line)
		if errno := check(row, ok, ahead); errno != api.OK {
			return nil, api.Error{Kind: errno, Line: i + 1}
		}
		list = append(list, row)
		ahead = row.Name
	}
	if lines[last] != "" {
		return nil, api.Error{Kind: api.ErrForm, Line: last + 1}
	}
	return list, api.Error{}
}

// Tell writes a solution (P7).
func Tell(list []api.Row) (string, api.Error) {
	size := 0
	ahead := ""
	for i, row := range list {
		if errno := check(row, areNames(row), ahead); errno != api.OK {
			return "", api.Error{Kind: errno, Line: i + 1}
		}
		// Held at one above the limit: rows may share a list, so that the sum could wrap round.
		size = min(size+width(row), api.MaxText+1)
		ahead = row.Name
	}
	if size > api.MaxText {
		return "", api.Error{Kind: api.ErrLong}
	}
	return Write(list), api.Error{}
}

// check tells the first error of a row that stands behind the one named ahead
// (a first row stands behind "", as every name does). formed: whether all that
// should be a name in it is one.
func check(row api.Row, formed bool, ahead string) api.Errno {
	if !formed || !inOrder(row.To) {
		return api.ErrForm
	}
	if tooLong(row) {
		return api.ErrName
	}
	if row.Name <= ahead {
		return api.ErrForm
	}
	return api.OK
}

func areNames(row api.Row) bool {
	for _, name := range row.To {
		if !cut.IsName(name) {
			return false
		}
	}
	return cut.IsName(row.Name)
}

// inOrder tells whether each name stands behind the one ahead of it, so that none is there twice.
func inOrder(names []string) bool {
	for i := 1; i < len(names); i++ {
		if names[i] <= names[i-1] {
			return false
		}
	}
	return true
}

func tooLong(row api.Row) bool {
	for _, name := range row.To {
		if len(name) > api.MaxName {
			return true
		}
	}
	return len(row.Name) > api.MaxName
}

// width tells how many bytes a row's line has, with its newline.
func width(row api.Row) int {
	size := len(row.Name) + len(":\n")
	for _, name := range row.To {
		size += len(" ") + len(name)
	}
	return size
}

// Write writes rows as they are: they are to be known to be without an error.
func Write(list []api.Row) string {
	var text strings.Builder
	for _, row := range list {
		text.WriteString(row.Name)
		text.WriteString(":")
		for _, name := range row.To {
			text.WriteString(" ")
			text.WriteString(name)
		}
		text.WriteString("\n")
	}
	return text.String()
}
