package tailor

import (
	"math"
	"testing"

	"tailor/api"
)

func TestValidP3(t *testing.T) {
	one := []api.Node{node(8, 8, 8)}
	two := []api.Node{node(8, 8, 8), node(8, 8, 9)}
	for _, c := range []struct {
		name string
		t    api.Table
		want api.Errno
	}{
		{"the sample", sample(), api.OK},
		{"no nodes and no entries", api.Table{}, api.OK},
		{"empty lists", api.Table{Nodes: []api.Node{}, Entries: []api.Entry{}}, api.OK},
		{"nodes alone", tableOf(one), api.OK},

		{"MaxNodes nodes", tableOf(manyNodes(api.MaxNodes)), api.OK},
		{"one node more", tableOf(manyNodes(api.MaxNodes + 1)), api.ErrSize},
		{"MaxEntries entries", tableOf(one, manyEntries(api.MaxEntries)...), api.OK},
		{"one entry more", tableOf(one, manyEntries(api.MaxEntries+1)...), api.ErrSize},
		{"both at the bound", tableOf(manyNodes(api.MaxNodes), manyEntries(api.MaxEntries)...), api.OK},

		{"the least node", tableOf([]api.Node{node(0, 0, 1)}), api.OK},
		{"the greatest node", tableOf([]api.Node{node(250, 250, 250)}), api.OK},
		{"S alone", tableOf([]api.Node{node(0, 250, 1)}), api.OK},
		{"T 0", tableOf([]api.Node{node(8, 8, 0)}), api.ErrNode},
		{"T 0 with P and S 0", tableOf([]api.Node{node(0, 0, 0)}), api.ErrNode},
		{"T below 0", tableOf([]api.Node{node(8, 8, -1)}), api.ErrNode},
		{"T 251", tableOf([]api.Node{node(8, 8, 251)}), api.ErrNode},
		{"S below 0", tableOf([]api.Node{node(0, -1, 8)}), api.ErrNode},
		{"S 251", tableOf([]api.Node{node(0, 251, 8)}), api.ErrNode},
		{"P below 0", tableOf([]api.Node{node(-1, 8, 8)}), api.ErrNode},
		{"P below 0, S 0", tableOf([]api.Node{node(-1, 0, 8)}), api.ErrNode},
		{"P 251", tableOf([]api.Node{node(251, 8, 8)}), api.ErrNode},
		{"P without S", tableOf([]api.Node{node(1, 0, 8)}), api.ErrNode},
		{"P with the least S", tableOf([]api.Node{node(1, 1, 1)}), api.OK},
		{"the least and greatest ints", tableOf([]api.Node{node(math.MinInt, 8, math.MaxInt)}), api.ErrNode},
		{"the second node is none", tableOf([]api.Node{node(8, 8, 8), node(9, 0, 8)}), api.ErrNode},

		{"above by P, less in S and T", tableOf([]api.Node{node(8, 9, 9), node(9, 1, 1)}), api.OK},
		{"above by S, less in T", tableOf([]api.Node{node(8, 8, 9), node(8, 9, 1)}), api.OK},
		{"above by T", tableOf(two), api.OK},
		{"the same node twice", tableOf([]api.Node{node(8, 8, 8), node(8, 8, 8)}), api.ErrNode},
		{"less in P", tableOf([]api.Node{node(9, 8, 8), node(8, 9, 9)}), api.ErrNode},
		{"less in S", tableOf([]api.Node{node(8, 9, 8), node(8, 8, 9)}), api.ErrNode},
		{"less in T", tableOf([]api.Node{node(8, 8, 9), node(8, 8, 8)}), api.ErrNode},
		{"the third is not above the second", tableOf([]api.Node{node(7, 8, 8), node(9, 8, 8), node(8, 8, 8)}), api.ErrNode},

		{"a text of one byte", tableOf(one, entry("\x00", 0)), api.OK},
		{"a text of MaxPiece bytes", tableOf(one, entry("\xff\xfe\xff", 0)), api.OK},
		{"an empty text", tableOf(one, entry("", 0)), api.ErrEntry},
		{"a text of one byte more", tableOf(one, entry("abcd", 0)), api.ErrEntry},
		{"MaxSpread nodes, any order, one twice", tableOf(two, entry("a", 1, 0, 1, 1)), api.OK},
		{"one node more in the entry", tableOf(two, entry("a", 0, 0, 0, 0, 0)), api.ErrEntry},
		{"no node in the entry", tableOf(two, entry("a")), api.ErrEntry},
		{"a node behind the last", tableOf(two, entry("a", 0, 2)), api.ErrEntry},
		{"a node below 0", tableOf(two, entry("a", -1)), api.ErrEntry},
		{"the least int as a node", tableOf(two, entry("a", math.MinInt)), api.ErrEntry},
		{"an entry without any node in the table", tableOf(nil, entry("a", 0)), api.ErrEntry},
		{"the second entry is none", tableOf(one, entry("a", 0), entry("b")), api.ErrEntry},

		{"bytes from 0 to 255", tableOf(one, entry("\x00", 0), entry("A", 0), entry("a", 0), entry("\x80", 0), entry("\xff", 0)), api.OK},
		{"a text behind what it begins with", tableOf(one, entry("a", 0), entry("a\x00", 0), entry("aa", 0), entry("b", 0)), api.OK},
		{"a text before what it begins with", tableOf(one, entry("ab", 0), entry("a", 0)), api.ErrEntry},
		{"the same text twice", tableOf(one, entry("a", 0), entry("a", 0)), api.ErrEntry},
		{"a lesser text behind", tableOf(one, entry("b", 0), entry("aaa", 0)), api.ErrEntry},
		{"not the order of letters", tableOf(one, entry("a", 0), entry("B", 0)), api.ErrEntry},
		{"the third is not behind the second", tableOf(one, entry("a", 0), entry("c", 0), entry("b", 0)), api.ErrEntry},
	} {
		if e := Valid(c.t); e != c.want {
			t.Errorf("P3: %s: Valid = %d, want %d", c.name, e, c.want)
		}
	}
}

// TestValidOrderOfErrors: of several errors the one named first is told.
func TestValidOrderOfErrors(t *testing.T) {
	bad := []api.Node{node(0, 0, 0)}
	for _, c := range []struct {
		name string
		t    api.Table
		want api.Errno
	}{
		{"too many nodes that are none", tableOf(make([]api.Node, api.MaxNodes+1)), api.ErrSize},
		{"too many entries that are none", api.Table{Entries: make([]api.Entry, api.MaxEntries+1)}, api.ErrSize},
		{"a bad node, too many entries", tableOf(bad, manyEntries(api.MaxEntries+1)...), api.ErrSize},
		{"a bad node and a bad entry", tableOf(bad, entry("")), api.ErrNode},
		{"the last node and the first entry", tableOf([]api.Node{node(8, 8, 8), node(8, 8, 8)}, entry("abcd")), api.ErrNode},
		{"nodes out of order and entries out of order", tableOf([]api.Node{node(9, 8, 8), node(8, 8, 8)}, entry("b", 0), entry("a", 0)), api.ErrNode},
	} {
		if e := Valid(c.t); e != c.want {
			t.Errorf("P1, P3: %s: Valid = %d, want %d", c.name, e, c.want)
		}
	}
}
