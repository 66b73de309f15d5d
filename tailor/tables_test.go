package tailor

import (
	"fmt"
	"math/rand"
	"slices"
	"strings"
	"testing"

	"tailor/api"
)

func node(p, s, t int) api.Node { return api.Node{P: p, S: s, T: t} }

func entry(text string, nodes ...int) api.Entry { return api.Entry{Text: text, Nodes: nodes} }

func tableOf(nodes []api.Node, entries ...api.Entry) api.Table {
	return api.Table{Nodes: nodes, Entries: entries}
}

// sample is the table of the document's examples.
func sample() api.Table {
	return tableOf(
		[]api.Node{node(0, 16, 8), node(8, 8, 8), node(8, 8, 16), node(16, 8, 8), node(24, 8, 8)},
		entry("'", 0), entry("A", 2), entry("a", 1), entry("b", 3), entry("c", 4))
}

// overlapping is a table in which longer texts begin with shorter ones, with
// nodes that weigh nothing on the first levels and entries of several nodes.
func overlapping() api.Table {
	return tableOf(
		[]api.Node{node(0, 0, 1), node(0, 3, 4), node(1, 1, 1), node(1, 1, 250), node(1, 250, 1), node(250, 1, 2)},
		entry("\x00", 0), entry("a", 2), entry("ab", 5, 0), entry("abc", 1, 3, 1, 2), entry("b", 3), entry("bca", 4, 4), entry("\xff", 1))
}

// manyNodes are n nodes that are valid but for their number.
func manyNodes(n int) []api.Node {
	var l []api.Node
	for i := range n {
		l = append(l, node(0, 0, i+1))
	}
	return l
}

// manyEntries are n entries that are valid but for their number.
func manyEntries(n int) []api.Entry {
	var l []api.Entry
	for i := range n {
		l = append(l, entry(fmt.Sprintf("%03d", i), 0))
	}
	return l
}

// randomTable makes a valid table over the letters a, b and c.
func randomTable(r *rand.Rand) api.Table {
	var t api.Table
	for range r.Intn(8) {
		n := node(r.Intn(4), r.Intn(4), 1+r.Intn(4))
		if n.P > 0 {
			n.S++
		}
		t.Nodes = append(t.Nodes, n)
	}
	slices.SortFunc(t.Nodes, func(a, b api.Node) int {
		return slices.Compare([]int{a.P, a.S, a.T}, []int{b.P, b.S, b.T})
	})
	t.Nodes = slices.Compact(t.Nodes)
	if len(t.Nodes) == 0 {
		return t
	}
	var texts []string
	for range r.Intn(10) {
		texts = append(texts, randomText(r, 1+r.Intn(api.MaxPiece)))
	}
	slices.Sort(texts)
	for _, text := range slices.Compact(texts) {
		e := entry(text)
		for range 1 + r.Intn(api.MaxSpread) {
			e.Nodes = append(e.Nodes, r.Intn(len(t.Nodes)))
		}
		t.Entries = append(t.Entries, e)
	}
	return t
}

func randomText(r *rand.Rand, length int) string {
	var b strings.Builder
	for range length {
		b.WriteByte("abc"[r.Intn(3)])
	}
	return b.String()
}

// plainPieces finds the pieces of a text by trying the lengths from the
// greatest on: another way than the program's, to hold it against.
func plainPieces(t api.Table, s string) ([]api.Entry, bool) {
	if s == "" {
		return nil, true
	}
	for n := min(api.MaxPiece, len(s)); n > 0; n-- {
		i := slices.IndexFunc(t.Entries, func(e api.Entry) bool { return e.Text == s[:n] })
		if i < 0 {
			continue
		}
		rest, ok := plainPieces(t, s[n:])
		return append([]api.Entry{t.Entries[i]}, rest...), ok
	}
	return nil, false
}

// plainWeights gives the weights of a text on the levels 1 to 3.
func plainWeights(t api.Table, s string) ([3][]int, bool) {
	var l [3][]int
	pieces, ok := plainPieces(t, s)
	for _, e := range pieces {
		for _, n := range e.Nodes {
			for i, w := range []int{t.Nodes[n].P, t.Nodes[n].S, t.Nodes[n].T} {
				if w > 0 {
					l[i] = append(l[i], w)
				}
			}
		}
	}
	return l, ok
}

func TestHelpersMakeValidTables(t *testing.T) {
	r := rand.New(rand.NewSource(1))
	for range 200 {
		x := randomTable(r)
		if e := Valid(x); e != api.OK {
			t.Fatalf("randomTable: %v: %d", x, e)
		}
	}
	if e := Valid(overlapping()); e != api.OK {
		t.Fatalf("overlapping: %d", e)
	}
}
