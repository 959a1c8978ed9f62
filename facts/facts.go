// Package facts reads a file as facts, and writes facts as a file.
package facts

import (
	"strings"

	"quern/api"
	"quern/cut"
)

// Parse reads a file (P3).
func Parse(file string) ([]api.Fact, api.Error) {
	if len(file) > api.MaxFile {
		return nil, api.Error{Kind: api.ErrLong}
	}
	var list []api.Fact
	seen := newTally()
	for i, line := range strings.Split(file, "\n") {
		fact, errno := parseLine(line)
		if errno == api.OK && fact.Kind != cut.Nothing {
			errno = seen.add(fact)
			list = append(list, fact)
		}
		if errno != api.OK {
			return nil, api.Error{Kind: errno, Line: i + 1}
		}
	}
	return list, api.Error{}
}

func parseLine(line string) (api.Fact, api.Errno) {
	if len(line) > api.MaxLine {
		return api.Fact{}, api.ErrWide
	}
	fact, ok := cut.Fact(line)
	if !ok {
		return api.Fact{}, api.ErrForm
	}
	return fact, api.OK
}

// Print writes facts as a file (P4).
func Print(list []api.Fact) (string, api.Error) {
	var text strings.Builder
	seen := newTally()
	for i, fact := range list {
		errno := api.ErrForm
		if isFact(fact) {
			errno = seen.add(fact)
		}
		if errno != api.OK {
			return "", api.Error{Kind: errno, Line: i + 1}
		}
		text.WriteString(printLine(fact))
	}
	return text.String(), api.Error{}
}

func isFact(fact api.Fact) bool {
	return api.Address <= fact.Kind && fact.Kind <= api.Store && cut.IsName(fact.P) && cut.IsName(fact.Q)
}

func printLine(fact api.Fact) string {
	switch fact.Kind {
	case api.Address:
		return fact.P + " = &" + fact.Q + "\n"
	case api.Load:
		return fact.P + " = *" + fact.Q + "\n"
	case api.Store:
		return "*" + fact.P + " = " + fact.Q + "\n"
	}
	return fact.P + " = " + fact.Q + "\n"
}
