// Package table: what a table is, and what a text stands for by it.
package table

import "tailor/api"

// Valid tells whether a table is valid (P3).
func Valid(t api.Table) api.Errno {
	if len(t.Nodes) > api.MaxNodes || len(t.Entries) > api.MaxEntries {
		return api.ErrSize
	}
	if !validNodes(t.Nodes) {
		return api.ErrNode
	}
	if !validEntries(t.Entries, len(t.Nodes)) {
		return api.ErrEntry
	}
	return api.OK
}

func validNodes(nodes []api.Node) bool {
	for i := 0; i < len(nodes); i++ {
		if !IsNode(nodes[i]) {
			return false
		}
		if i > 0 && !IsAbove(nodes[i], nodes[i-1]) {
			return false
		}
	}
	return true
}

// IsNode tells whether weights are those of a node.
func IsNode(n api.Node) bool {
	if n.P < 0 || n.P > api.MaxWeight {
		return false
	}
	if n.S < 0 || n.S > api.MaxWeight {
		return false
	}
	if n.T < 1 || n.T > api.MaxWeight {
		return false
	}
	return n.P == 0 || n.S > 0
}

// IsAbove tells whether a node is above another one.
func IsAbove(n api.Node, before api.Node) bool {
	if n.P != before.P {
		return n.P > before.P
	}
	if n.S != before.S {
		return n.S > before.S
	}
	return n.T > before.T
}

// Strength gives the strength of a node as to another one before it. As to
// nothing it is the one as to the node of weights 0.
func Strength(n api.Node, before api.Node) int {
	if n.P != before.P {
		return 1
	}
	if n.S != before.S {
		return 2
	}
	return 3
}

func validEntries(entries []api.Entry, nodeCount int) bool {
	for i := 0; i < len(entries); i++ {
		if !isEntry(entries[i], nodeCount) {
			return false
		}
		if i > 0 && entries[i].Text <= entries[i-1].Text {
			return false
		}
	}
	return true
}

func isEntry(e api.Entry, nodeCount int) bool {
	if len(e.Text) < 1 || len(e.Text) > api.MaxPiece {
		return false
	}
	if len(e.Nodes) < 1 || len(e.Nodes) > api.MaxSpread {
		return false
	}
	for i := 0; i < len(e.Nodes); i++ {
		if e.Nodes[i] < 0 || e.Nodes[i] >= nodeCount {
			return false
		}
	}
	return true
}
