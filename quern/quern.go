// Package quern finds out what each name may point to. See DOC.md.
package quern

import (
	"quern/api"
	"quern/facts"
	"quern/points"
	"quern/rows"
)

// Parse reads a file (P3).
func Parse(file string) ([]api.Fact, api.Error) { return facts.Parse(file) }

// Print writes facts as a file (P4).
func Print(l []api.Fact) (string, api.Error) { return facts.Print(l) }

// Analyze finds out what each name of a file may point to (P5).
func Analyze(file string, c api.Config) (api.Result, api.Error) { return points.Analyze(file, c) }

// Read reads a solution (P7).
func Read(text string) ([]api.Row, api.Error) { return rows.Read(text) }

// Tell writes a solution (P7).
func Tell(l []api.Row) (string, api.Error) { return rows.Tell(l) }
