package code

import (
	"tailor/api"
	"tailor/table"
)

const nodeBytes = 3

// Decode gives the table that a text tells (P8).
func Decode(s string) (api.Table, api.Errno) {
	t, ok := readTable(s)
	if !ok {
		return api.Table{}, api.ErrCode
	}
	e := table.Valid(t)
	if e != api.OK {
		return api.Table{}, e
	}
	return t, api.OK
}

// readTable gives the table that s tells, valid or not, or false if s is not
// of the form of a table's text.
func readTable(s string) (api.Table, bool) {
	weights, at, ok := counted(s, 0, nodeBytes)
	if !ok {
		return api.Table{}, false
	}
	entries, end, ok := readEntries(s, at)
	if !ok || end != len(s) {
		return api.Table{}, false
	}
	return api.Table{Nodes: nodesFrom(weights), Entries: entries}, true
}

func nodesFrom(weights string) []api.Node {
	var nodes []api.Node
	for i := 0; i+2 < len(weights); i += nodeBytes {
		n := api.Node{P: int(weights[i]), S: int(weights[i+1]), T: int(weights[i+2])}
		nodes = append(nodes, n)
	}
	return nodes
}

// readEntries gives the entries, counted by the byte at a place of s, and the
// place behind them.
func readEntries(s string, at int) ([]api.Entry, int, bool) {
	if at < 0 || at >= len(s) {
		return nil, 0, false
	}
	count := int(s[at])
	next := at + 1
	var entries []api.Entry
	for i := 0; i < count; i++ {
		e, behind, ok := readEntry(s, next)
		if !ok {
			return nil, 0, false
		}
		entries = append(entries, e)
		next = behind
	}
	return entries, next, true
}

// readEntry gives the entry at a place of s and the place behind it.
func readEntry(s string, at int) (api.Entry, int, bool) {
	text, behindText, ok := counted(s, at, 1)
	if !ok {
		return api.Entry{}, 0, false
	}
	numbers, behind, ok := counted(s, behindText, 1)
	if !ok {
		return api.Entry{}, 0, false
	}
	return api.Entry{Text: text, Nodes: numbersFrom(numbers)}, behind, true
}

func numbersFrom(bytes string) []int {
	var numbers []int
	for i := 0; i < len(bytes); i++ {
		numbers = append(numbers, int(bytes[i]))
	}
	return numbers
}

// counted gives the things, each of size bytes, that the byte at a place of s
// counts and that stand behind it, and the place behind them; or false if s
// ends too early.
func counted(s string, at int, size int) (string, int, bool) {
	if at < 0 || at >= len(s) {
		return "", 0, false
	}
	begin := at + 1
	length := int(s[at]) * size
	if length < 0 || length > len(s)-begin {
		return "", 0, false
	}
	return s[begin : begin+length], begin + length, true
}
