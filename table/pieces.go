package table

import "tailor/api"

// Pieces cuts a text into its pieces (P4).
func Pieces(t api.Table, s string) ([]string, api.Errno) {
	e := Valid(t)
	if e != api.OK {
		return nil, e
	}
	if len(s) > api.MaxText {
		return nil, api.ErrLong
	}
	found, ok := cut(t.Entries, s)
	if !ok {
		return nil, api.ErrText
	}
	var pieces []string
	for i := 0; i < len(found); i++ {
		pieces = append(pieces, found[i].Text)
	}
	return pieces, api.OK
}

// cut gives the entries of the pieces of a text, or false if it has no pieces.
func cut(entries []api.Entry, s string) ([]api.Entry, bool) {
	var found []api.Entry
	at := 0
	for at < len(s) {
		i := longestAt(entries, s, at)
		if i < 0 {
			return nil, false
		}
		found = append(found, entries[i])
		at += len(entries[i].Text)
	}
	return found, true
}

// longestAt gives the number of the entry with the longest text that stands
// at a place of s, or -1. An empty text never stands: cut would not get on.
func longestAt(entries []api.Entry, s string, at int) int {
	best := -1
	length := 0
	for i := 0; i < len(entries); i++ {
		text := entries[i].Text
		if len(text) > length && standsAt(text, s, at) {
			best = i
			length = len(text)
		}
	}
	return best
}

func standsAt(text string, s string, at int) bool {
	if at < 0 || at > len(s) || len(text) > len(s)-at {
		return false
	}
	return s[at:at+len(text)] == text
}

// Numbers gives the numbers of the nodes of a text by entries, or false if the
// text has no pieces.
func Numbers(entries []api.Entry, s string) ([]int, bool) {
	found, ok := cut(entries, s)
	if !ok {
		return nil, false
	}
	var numbers []int
	for i := 0; i < len(found); i++ {
		numbers = append(numbers, found[i].Nodes...)
	}
	return numbers, true
}

// nodesOf gives the nodes of a text by a valid table, or false if the text has
// no pieces.
func nodesOf(t api.Table, s string) ([]api.Node, bool) {
	numbers, ok := Numbers(t.Entries, s)
	if !ok {
		return nil, false
	}
	var nodes []api.Node
	for i := 0; i < len(numbers); i++ {
		nodes = append(nodes, t.Nodes[numbers[i]])
	}
	return nodes, true
}
