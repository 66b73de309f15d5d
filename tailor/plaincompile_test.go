package tailor

import (
	"maps"
	"math/rand"
	"slices"
	"testing"

	"tailor/api"
)

// plainNode is a node of plainCompile's list; entries point at it, so that it
// needs no number until the end.
type plainNode struct {
	api.Node
	strength int
	isNew    bool
}

func plainWeightsOf(n api.Node) []int { return []int{n.P, n.S, n.T} }

func plainStrength(n, before api.Node) int {
	for i, w := range plainWeightsOf(n)[:2] {
		if w != plainWeightsOf(before)[i] {
			return i + 1
		}
	}
	return 3
}

func plainFirstStrength(n api.Node) int {
	switch {
	case n.P > 0:
		return 1
	case n.S > 0:
		return 2
	}
	return 3
}

// plainEntries are the entries of plainCompile by their texts.
type plainEntries map[string][]*plainNode

func (l plainEntries) nodesOf(s string) ([]*plainNode, bool) {
	if s == "" {
		return nil, true
	}
	for n := min(api.MaxPiece, len(s)); n > 0; n-- {
		if nodes, ok := l[s[:n]]; ok {
			rest, ok := l.nodesOf(s[n:])
			return slices.Concat(nodes, rest), ok
		}
	}
	return nil, false
}

// plainCompile goes through the rules with pointers at nodes and a map of
// entries: another way than the program's, to hold it against.
func plainCompile(t api.Table, rules string) (api.Table, api.Errno, int) {
	if e := Valid(t); e != api.OK {
		return api.Table{}, e, 0
	}
	l, e, place := plainRead(rules)
	if e != api.OK {
		return api.Table{}, e, place
	}
	var list []*plainNode
	for i, n := range t.Nodes {
		x := &plainNode{Node: n, strength: plainFirstStrength(n)}
		if i > 0 {
			x.strength = plainStrength(n, t.Nodes[i-1])
		}
		list = append(list, x)
	}
	entries := plainEntries{}
	for _, e := range t.Entries {
		for _, n := range e.Nodes {
			entries[e.Text] = append(entries[e.Text], list[n])
		}
	}
	var stem []*plainNode
	var anchor *plainNode
	for i, r := range l {
		list, stem, anchor, e = plainStep(r, list, entries, stem, anchor)
		if e != api.OK {
			return api.Table{}, e, i
		}
	}
	return plainEnd(list, entries)
}

// plainStep goes the steps of one rule.
func plainStep(r api.Rule, list []*plainNode, entries plainEntries, stem []*plainNode, anchor *plainNode) ([]*plainNode, []*plainNode, *plainNode, api.Errno) {
	if r.Reset != "" {
		nodes, ok := entries.nodesOf(r.Reset)
		if !ok {
			return nil, nil, nil, api.ErrReset
		}
		stem, anchor = nodes[:len(nodes)-1], nodes[len(nodes)-1]
	}
	more, ok := entries.nodesOf(r.More)
	if !ok {
		return nil, nil, nil, api.ErrReset
	}
	at := slices.Index(list, anchor)
	where := len(list)
	if r.Before > 0 {
		nearest := -1
		for i, x := range list[:at+1] {
			if x.strength <= r.Before {
				nearest = i
			}
		}
		if r.Level != r.Before || nearest < 0 || list[nearest].strength != r.Before {
			return nil, nil, nil, api.ErrBefore
		}
		where = nearest
	} else if i := slices.IndexFunc(list[at+1:], func(x *plainNode) bool { return x.strength <= r.Level }); i >= 0 {
		where = at + 1 + i
	}
	if r.Level > 0 {
		anchor = &plainNode{strength: r.Level, isNew: true}
		list = slices.Insert(slices.Clone(list), where, anchor)
	}
	if len(stem)+1+len(more) > api.MaxSpread {
		return nil, nil, nil, api.ErrSpread
	}
	if _, has := entries[r.Text]; len(list) > api.MaxNodes || !has && len(entries) == api.MaxEntries {
		return nil, nil, nil, api.ErrRoom
	}
	entries[r.Text] = slices.Concat(stem, []*plainNode{anchor}, more)
	return list, stem, anchor, api.OK
}

// plainEnd gives the new nodes their weights, and the table.
func plainEnd(list []*plainNode, entries plainEntries) (api.Table, api.Errno, int) {
	var t api.Table
	for i, x := range list {
		before := api.Node{}
		if i > 0 {
			before = list[i-1].Node
		}
		if x.isNew {
			x.Node = []api.Node{node(before.P+1, 8, 8), node(before.P, before.S+1, 8), node(before.P, before.S, before.T+1)}[x.strength-1]
			if slices.Max(plainWeightsOf(x.Node)) > 250 {
				return api.Table{}, api.ErrFull, 0
			}
		} else if i > 0 && (slices.Compare(plainWeightsOf(x.Node), plainWeightsOf(before)) <= 0 || plainStrength(x.Node, before) != x.strength) {
			return api.Table{}, api.ErrFull, 0
		}
		t.Nodes = append(t.Nodes, x.Node)
	}
	for _, text := range slices.Sorted(maps.Keys(entries)) {
		e := entry(text)
		for _, x := range entries[text] {
			e.Nodes = append(e.Nodes, slices.Index(list, x))
		}
		t.Entries = append(t.Entries, e)
	}
	return t, api.OK, 0
}

// wideTable makes a valid table with some room between its weights.
func wideTable(r *rand.Rand) api.Table {
	t := randomTable(r)
	factor := []int{1, 2, 8, 20, 60}[r.Intn(5)]
	for i, n := range t.Nodes {
		t.Nodes[i] = node(n.P*factor, n.S*factor, n.T*factor)
	}
	return t
}

// crowdedTable makes a valid table in which there is hardly room for more
// nodes or for more entries; its texts are digits.
func crowdedTable(r *rand.Rand) api.Table {
	var t api.Table
	nodes, entries := api.MaxNodes-r.Intn(4), api.MaxEntries-r.Intn(4)
	if r.Intn(2) == 0 {
		nodes -= r.Intn(40)
	}
	if r.Intn(2) == 0 {
		entries -= r.Intn(40)
	}
	for i := range nodes {
		t.Nodes = append(t.Nodes, node(5*(i/3), 8+5*(i%3/2), 8+5*(i%3)))
	}
	for _, e := range manyEntries(entries) {
		e.Text = e.Text[1:]
		for i := range e.Nodes {
			e.Nodes[i] = r.Intn(nodes)
		}
		t.Entries = append(t.Entries, e)
	}
	return t
}

// rulesFor makes rules that name, most often, texts that the table or the
// rules themselves have.
func rulesFor(r *rand.Rand, t api.Table, most int) []api.Rule {
	var texts []string
	for _, e := range t.Entries {
		texts = append(texts, e.Text)
	}
	if len(texts) == 0 {
		texts = []string{"a"}
	}
	pick := func(parts, length int) string {
		s := ""
		for range 1 + r.Intn(parts) {
			if p := texts[r.Intn(len(texts))]; len(s)+len(p) <= length {
				s += p
			}
		}
		if s == "" || r.Intn(100) == 0 {
			return "a"
		}
		return s
	}
	var l []api.Rule
	for i := range 1 + r.Intn(most) {
		x := ruleOf("", 0, r.Intn(4), randomBytes(r, 1+r.Intn(api.MaxPiece)), "")
		if r.Intn(3) == 0 {
			x.Text = pick(2, api.MaxPiece)
		}
		if i == 0 || r.Intn(3) == 0 {
			x.Reset = pick(2, api.MaxPart)
			if r.Intn(4) == 0 {
				x.Before = 1 + r.Intn(3)
			}
			if x.Before > 0 && r.Intn(8) > 0 {
				x.Level = x.Before
			}
		}
		if r.Intn(6) == 0 {
			x.More = pick(2, api.MaxPart)
		}
		texts = append(texts, x.Text)
		l = append(l, x)
	}
	return l
}

func TestHelpersCompile(t *testing.T) {
	x, e, at := plainCompile(sample(), "&a<x<<y")
	want := tableOf(
		[]api.Node{node(0, 16, 8), node(8, 8, 8), node(8, 8, 16), node(9, 8, 8), node(9, 9, 8), node(16, 8, 8), node(24, 8, 8)},
		entry("'", 0), entry("A", 2), entry("a", 1), entry("b", 5), entry("c", 6), entry("x", 3), entry("y", 4))
	if !sameTable(x, want) || e != api.OK || at != 0 {
		t.Fatalf("plainCompile: %v, %d, %d", x, e, at)
	}
	r := rand.New(rand.NewSource(11))
	for range 200 {
		if x, y := wideTable(r), crowdedTable(r); Valid(x) != api.OK || Valid(y) != api.OK {
			t.Fatalf("wideTable: %v: %d; crowdedTable: %v: %d", x, Valid(x), y, Valid(y))
		}
	}
}
