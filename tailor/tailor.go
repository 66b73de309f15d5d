// Package tailor: orders of texts, and rules that change them: see DOC.md.
package tailor

import (
	"tailor/api"
	"tailor/code"
	"tailor/compile"
	"tailor/rule"
	"tailor/table"
)

// Valid tells whether a table is valid (P3).
func Valid(t api.Table) api.Errno { return table.Valid(t) }

// Pieces cuts a text into its pieces (P4).
func Pieces(t api.Table, s string) ([]string, api.Errno) { return table.Pieces(t, s) }

// Compare tells which of two texts is first (P5).
func Compare(t api.Table, a string, b string, level int) (int, api.Errno) {
	return table.Compare(t, a, b, level)
}

// Key gives the key of a text (P6).
func Key(t api.Table, s string, level int) (string, api.Errno) { return table.Key(t, s, level) }

// Encode gives the text of a table (P7).
func Encode(t api.Table) (string, api.Errno) { return code.Encode(t) }

// Decode gives the table that a text tells (P8).
func Decode(s string) (api.Table, api.Errno) { return code.Decode(s) }

// Read reads rules (P9).
func Read(rules string) ([]api.Rule, api.Errno, int) { return rule.Read(rules) }

// Write writes rules (P10).
func Write(l []api.Rule) (string, api.Errno) { return rule.Write(l) }

// Compile makes a new table by rules (P11, P12).
func Compile(t api.Table, rules string) (api.Table, api.Errno, int) {
	return compile.Compile(t, rules)
}
