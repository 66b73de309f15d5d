package tailor

import (
	"math/rand"
	"slices"
	"strings"
	"testing"

	"tailor/api"
)

func checkCompile(t *testing.T, x api.Table, rules string) {
	t.Helper()
	y, e, at := Compile(x, rules)
	if want, wantE, wantAt := plainCompile(x, rules); !sameTable(y, want) || e != wantE || at != wantAt {
		t.Errorf("P11, P12: Compile(%.300v, %.130q) = %v, %d, %d, want %v, %d, %d", x, rules, y, e, at, want, wantE, wantAt)
	}
}

// put is a new node and its place in the new list.
type put struct {
	at int
	n  api.Node
}

// puts tells places and new nodes in turn.
func puts(places []int, nodes ...api.Node) []put {
	var l []put
	for i, n := range nodes {
		l = append(l, put{places[i], n})
	}
	return l
}

// changed gives a table with new nodes, in the order of their places, and
// with new entries, by the new numbers.
func changed(x api.Table, news []put, entries ...api.Entry) api.Table {
	var y api.Table
	y.Nodes = slices.Clone(x.Nodes)
	numbers := make([]int, len(x.Nodes))
	for i := range numbers {
		numbers[i] = i
	}
	for _, p := range news {
		y.Nodes = slices.Insert(y.Nodes, p.at, p.n)
		for i := range numbers {
			if numbers[i] >= p.at {
				numbers[i]++
			}
		}
	}
	for _, e := range x.Entries {
		if slices.ContainsFunc(entries, func(o api.Entry) bool { return o.Text == e.Text }) {
			continue
		}
		moved := entry(e.Text)
		for _, n := range e.Nodes {
			moved.Nodes = append(moved.Nodes, numbers[n])
		}
		y.Entries = append(y.Entries, moved)
	}
	y.Entries = append(y.Entries, entries...)
	slices.SortFunc(y.Entries, func(a, b api.Entry) int { return strings.Compare(a.Text, b.Text) })
	return y
}

// steep has nodes of every strength, one behind another, with room between.
func steep() api.Table {
	return tableOf(
		[]api.Node{node(0, 0, 8), node(0, 0, 16), node(0, 8, 8), node(0, 8, 16), node(8, 8, 8), node(8, 8, 16), node(8, 16, 8), node(8, 16, 16), node(16, 8, 8), node(16, 16, 8)},
		entry("a", 0), entry("b", 1), entry("c", 2), entry("d", 3), entry("e", 4), entry("f", 5), entry("g", 6), entry("h", 7), entry("i", 8), entry("j", 9))
}

func checkAnswer(t *testing.T, x api.Table, rules string, want api.Table) {
	t.Helper()
	if y, e, at := Compile(x, rules); !sameTable(y, want) || e != api.OK || at != 0 {
		t.Errorf("P11, P12: Compile(%v, %q) = %v, %d, %d, want %v", x, rules, y, e, at, want)
	}
	checkCompile(t, x, rules)
}

func TestCompileP11P12(t *testing.T) {
	for _, c := range []struct {
		rules   string
		news    []put
		entries []api.Entry
	}{
		// No rules at all.
		{"", nil, nil}, {"  ", nil, nil},

		// The examples of the document.
		{"&a<x<<y", puts([]int{3, 4}, node(9, 8, 8), node(9, 9, 8)), []api.Entry{entry("x", 3), entry("y", 4)}},
		{"&[before 1]b<x", puts([]int{3}, node(9, 8, 8)), []api.Entry{entry("x", 3)}},
		{"&ab<ch", puts([]int{4}, node(17, 8, 8)), []api.Entry{entry("ch", 1, 4)}},
		{"&a=x/b", nil, []api.Entry{entry("x", 1, 3)}},
		{"&a<d<e<f<g<h<i<j", puts([]int{3, 4, 5, 6, 7, 8, 9}, node(9, 8, 8), node(10, 8, 8), node(11, 8, 8), node(12, 8, 8), node(13, 8, 8), node(14, 8, 8), node(15, 8, 8)), []api.Entry{entry("d", 3), entry("e", 4), entry("f", 5), entry("g", 6), entry("h", 7), entry("i", 8), entry("j", 9)}},

		// A node is put before the first one behind the anchor with at most that strength.
		{"&a<<<x", puts([]int{2}, node(8, 8, 9)), []api.Entry{entry("x", 2)}},
		{"&a<<x", puts([]int{3}, node(8, 9, 8)), []api.Entry{entry("x", 3)}},
		{"&'<<<x", puts([]int{1}, node(0, 16, 9)), []api.Entry{entry("x", 1)}},
		{"&c<x", puts([]int{5}, node(25, 8, 8)), []api.Entry{entry("x", 5)}},
		{"&c<<<x<<y<z", puts([]int{5, 6, 7}, node(24, 8, 9), node(24, 9, 8), node(25, 8, 8)), []api.Entry{entry("x", 5), entry("y", 6), entry("z", 7)}},

		// A chain goes on from the new node, and a new chain from its reset.
		{"&a<x&a<y", puts([]int{3, 4}, node(9, 8, 8), node(10, 8, 8)), []api.Entry{entry("x", 4), entry("y", 3)}},
		{"&a<x<<<y<<z<w", puts([]int{3, 4, 5, 6}, node(9, 8, 8), node(9, 8, 9), node(9, 9, 8), node(10, 8, 8)), []api.Entry{entry("x", 3), entry("y", 4), entry("z", 5), entry("w", 6)}},
		{"&a<x<<<y&a<<z", puts([]int{3, 4, 5}, node(8, 9, 8), node(9, 8, 8), node(9, 8, 9)), []api.Entry{entry("x", 4), entry("y", 5), entry("z", 3)}},

		// A Level 0 puts nothing in, and the rule behind it goes on from the same anchor.
		{"&A=x=y<<z", puts([]int{3}, node(8, 9, 8)), []api.Entry{entry("x", 2), entry("y", 2), entry("z", 3)}},
		{"&a<x=y<<<z", puts([]int{3, 4}, node(9, 8, 8), node(9, 8, 9)), []api.Entry{entry("x", 3), entry("y", 3), entry("z", 4)}},
		{"&ab=x<y=z", puts([]int{4}, node(17, 8, 8)), []api.Entry{entry("x", 1, 3), entry("y", 1, 4), entry("z", 1, 4)}},

		// The stem is that of the chain, whatever its rules add.
		{"&ab<x<<y/c=z", puts([]int{4, 5}, node(17, 8, 8), node(17, 9, 8)), []api.Entry{entry("x", 1, 4), entry("y", 1, 5, 6), entry("z", 1, 5)}},
		{"&ab=x&c=y", nil, []api.Entry{entry("x", 1, 3), entry("y", 4)}},
		{"&a=x/bc&x<y", puts([]int{5}, node(25, 8, 8)), []api.Entry{entry("x", 1, 3, 4), entry("y", 1, 3, 5)}},
		{"&aaa=x/a&x=y", nil, []api.Entry{entry("x", 1, 1, 1, 1), entry("y", 1, 1, 1, 1)}},

		// A Text that has an entry already; the node that it had stays.
		{"&c<a", puts([]int{5}, node(25, 8, 8)), []api.Entry{entry("a", 5)}},
		{"&a<a", puts([]int{3}, node(9, 8, 8)), []api.Entry{entry("a", 3)}},
		{"&c<a&a<b", puts([]int{5, 6}, node(25, 8, 8), node(26, 8, 8)), []api.Entry{entry("a", 5), entry("b", 6)}},
		{"&a<x&b<x&c<x", puts([]int{3, 5, 7}, node(9, 8, 8), node(17, 8, 8), node(25, 8, 8)), []api.Entry{entry("x", 7)}},
		{"&a<x<x", puts([]int{3, 4}, node(9, 8, 8), node(10, 8, 8)), []api.Entry{entry("x", 4)}},
		{"&a=a&ab=a&a=x", nil, []api.Entry{entry("a", 1, 3), entry("x", 1, 3)}},

		// Reset and More by the entries as they are then: longer pieces, and changed ones.
		{"&a<ab&ab<x", puts([]int{3, 4}, node(9, 8, 8), node(10, 8, 8)), []api.Entry{entry("ab", 3), entry("x", 4)}},
		{"&ab<ab&ab=x", puts([]int{4}, node(17, 8, 8)), []api.Entry{entry("ab", 1, 4), entry("x", 1, 4)}},
		{"&c<x&b=y/xa", puts([]int{5}, node(25, 8, 8)), []api.Entry{entry("x", 5), entry("y", 3, 5, 1)}},
		{"&c<a/a&b=y/a", puts([]int{5}, node(25, 8, 8)), []api.Entry{entry("a", 5, 1), entry("y", 3, 5, 1)}},

		// Spaces and signs in parts, and any bytes.
		{"&b < \\&\\ \\< / a'", puts([]int{4}, node(17, 8, 8)), []api.Entry{entry("& <", 4, 1, 0)}},
		{"&b<\x00=\xff\xfe\xff", puts([]int{4}, node(17, 8, 8)), []api.Entry{entry("\x00", 4), entry("\xff\xfe\xff", 4)}},
		{"&a=d=ab=B=aa=abc", nil, []api.Entry{entry("B", 1), entry("aa", 1), entry("ab", 1), entry("abc", 1), entry("d", 1)}},
	} {
		checkAnswer(t, sample(), c.rules, changed(sample(), c.news, c.entries...))
	}
}

func TestCompileBeforeP11(t *testing.T) {
	for _, c := range []struct {
		rules   string
		news    []put
		entries []api.Entry
	}{
		// At once before the anchor, if that is the nearest node that fits.
		{"&[before 3]b<<<x", puts([]int{1}, node(0, 0, 9)), []api.Entry{entry("x", 1)}},
		{"&[before 2]c<<x", puts([]int{2}, node(0, 1, 8)), []api.Entry{entry("x", 2)}},
		{"&[before 1]e<x", puts([]int{4}, node(1, 8, 8)), []api.Entry{entry("x", 4)}},
		{"&[before 2]j<<x", puts([]int{9}, node(16, 9, 8)), []api.Entry{entry("x", 9)}},

		// Before a node that is farther off.
		{"&[before 2]d<<x", puts([]int{2}, node(0, 1, 8)), []api.Entry{entry("x", 2)}},
		{"&[before 2]h<<x", puts([]int{6}, node(8, 9, 8)), []api.Entry{entry("x", 6)}},
		{"&[before 1]h<x", puts([]int{4}, node(1, 8, 8)), []api.Entry{entry("x", 4)}},
		{"&[before 1]j<x", puts([]int{8}, node(9, 8, 8)), []api.Entry{entry("x", 8)}},

		// At the beginning of the list.
		{"&[before 3]a<<<x", puts([]int{0}, node(0, 0, 1)), []api.Entry{entry("x", 0)}},

		// The chain goes on behind the new node, and the stem counts as ever.
		{"&[before 1]i<x<<y<z", puts([]int{8, 9, 10}, node(9, 8, 8), node(9, 9, 8), node(10, 8, 8)), []api.Entry{entry("x", 8), entry("y", 9), entry("z", 10)}},
		{"&[before 1]ae<x=y", puts([]int{4}, node(1, 8, 8)), []api.Entry{entry("x", 0, 4), entry("y", 0, 4)}},
		{"&[before 1]i<x/ai", puts([]int{8}, node(9, 8, 8)), []api.Entry{entry("x", 8, 0, 9)}},

		// Each time at once before the node: the second behind the first.
		{"&[before 1]i<x&[before 1]i<y", puts([]int{8, 9}, node(9, 8, 8), node(10, 8, 8)), []api.Entry{entry("x", 8), entry("y", 9)}},

		// New nodes have the strength with which they were put in.
		{"&i<x&[before 1]x<y", puts([]int{10, 11}, node(17, 8, 8), node(18, 8, 8)), []api.Entry{entry("x", 11), entry("y", 10)}},
		{"&e<<x<<<y&[before 2]y<<z", puts([]int{6, 7, 8}, node(8, 9, 8), node(8, 10, 8), node(8, 10, 9)), []api.Entry{entry("x", 7), entry("y", 8), entry("z", 6)}},
		{"&e<<x&[before 1]x<z", puts([]int{4, 7}, node(1, 8, 8), node(8, 9, 8)), []api.Entry{entry("x", 7), entry("z", 4)}},
		{"&[before 3]a<<<x&[before 3]x<<<y", puts([]int{0, 1}, node(0, 0, 1), node(0, 0, 2)), []api.Entry{entry("x", 1), entry("y", 0)}},
	} {
		checkAnswer(t, steep(), c.rules, changed(steep(), c.news, c.entries...))
	}
	first := tableOf([]api.Node{node(8, 8, 8), node(8, 8, 16)}, entry("a", 0), entry("b", 1))
	checkAnswer(t, first, "&[before 1]a<x", changed(first, puts([]int{0}, node(1, 8, 8)), entry("x", 0)))
	checkAnswer(t, first, "&[before 1]b<x<<y", changed(first, puts([]int{0, 1}, node(1, 8, 8), node(1, 9, 8)), entry("x", 0), entry("y", 1)))
	second := tableOf([]api.Node{node(0, 8, 8)}, entry("a", 0))
	checkAnswer(t, second, "&[before 2]a<<x<<<y", changed(second, puts([]int{0, 1}, node(0, 1, 8), node(0, 1, 9)), entry("x", 0), entry("y", 1)))
}

// refusal is rules that are refused, with what error, and where.
type refusal struct {
	rules string
	e     api.Errno
	at    int
}

func checkRefused(t *testing.T, x api.Table, l ...refusal) {
	t.Helper()
	for _, c := range l {
		if y, e, at := Compile(x, c.rules); len(y.Nodes) > 0 || len(y.Entries) > 0 || e != c.e || at != c.at {
			t.Errorf("P11, P12: Compile(%.300v, %.130q) = %v, %d, %d, want the error %d, %d", x, c.rules, y, e, at, c.e, c.at)
		}
		checkCompile(t, x, c.rules)
	}
}

func TestCompileRefusesP11(t *testing.T) {
	long := strings.Repeat(" ", api.MaxRules+1)
	for _, rules := range []string{"", "&a<x", "&a", long} {
		checkRefused(t, api.Table{Nodes: make([]api.Node, api.MaxNodes+1)}, refusal{rules, api.ErrSize, 0})
		checkRefused(t, tableOf([]api.Node{{}}), refusal{rules, api.ErrNode, 0})
		checkRefused(t, tableOf(manyNodes(1), entry("a", 1)), refusal{rules, api.ErrEntry, 0})
	}
	checkRefused(t, sample(),
		refusal{long, api.ErrLong, 0}, refusal{"&a", api.ErrRule, 2}, refusal{"&a<<<<b", api.ErrRule, 5}, refusal{"&a<abcd", api.ErrPart, 3},
		refusal{"&d<x&a", api.ErrRule, 6}, refusal{"&d<x<abcd", api.ErrPart, 5},

		// Resets and mores without pieces.
		refusal{"&d<x", api.ErrReset, 0}, refusal{"&d=x", api.ErrReset, 0}, refusal{"&ad<x", api.ErrReset, 0}, refusal{"&da<x", api.ErrReset, 0}, refusal{"&a<x/d", api.ErrReset, 0}, refusal{"&a<x/ad", api.ErrReset, 0}, refusal{"&a=x/da", api.ErrReset, 0},
		refusal{"&a<x&d<y", api.ErrReset, 1}, refusal{"&a<x=y<z/d", api.ErrReset, 2}, refusal{"&a<x/x", api.ErrReset, 0}, refusal{"&x<x", api.ErrReset, 0}, refusal{"&d<x&e<y", api.ErrReset, 0},
		refusal{"&b<ab&abc<x&a<cd&acde<x", api.ErrReset, 3},

		// Before-tokens with another level, and without a node that fits.
		refusal{"&[before 1]b<<x", api.ErrBefore, 0}, refusal{"&[before 1]b=x", api.ErrBefore, 0}, refusal{"&[before 3]A<<x", api.ErrBefore, 0}, refusal{"&[before 3]A=x", api.ErrBefore, 0}, refusal{"&[before 3]A<x", api.ErrBefore, 0},
		refusal{"&[before 2]a<<x", api.ErrBefore, 0}, refusal{"&[before 2]A<<x", api.ErrBefore, 0}, refusal{"&[before 3]a<<<x", api.ErrBefore, 0}, refusal{"&[before 1]'<x", api.ErrBefore, 0}, refusal{"&[before 3]'<<<x", api.ErrBefore, 0},
		refusal{"&a<x&b<y&[before 2]x<<z", api.ErrBefore, 2}, refusal{"&a<<x&[before 3]x<<<z", api.ErrBefore, 1},

		// Too many nodes for a Text.
		refusal{"&aaaaa=x", api.ErrSpread, 0}, refusal{"&aaaaa<x", api.ErrSpread, 0}, refusal{"&aaaa=x/a", api.ErrSpread, 0}, refusal{"&aaaa<x/a", api.ErrSpread, 0}, refusal{"&a<x/aaaa", api.ErrSpread, 0}, refusal{"&a=x/aaaaaa", api.ErrSpread, 0},
		refusal{"&a=x/bb&xx=y", api.ErrSpread, 1}, refusal{"&aaaa=x=y=z/a", api.ErrSpread, 2}, refusal{"&a=x/bbb&a=y/x", api.ErrSpread, 1},

		// Where several errors apply: by rules first, then by steps.
		refusal{"&[before 2]d<<x", api.ErrReset, 0}, refusal{"&[before 2]a<x/d", api.ErrReset, 0}, refusal{"&aaaaa<x/d", api.ErrReset, 0},
		refusal{"&[before 2]aaaaa<<x", api.ErrBefore, 0}, refusal{"&[before 1]aaaaa<<x", api.ErrBefore, 0},
		refusal{"&aaaaa<x&d<y", api.ErrSpread, 0}, refusal{"&[before 2]a<<x&d<y", api.ErrBefore, 0}, refusal{"&a<x&aaaaa<x&[before 2]a<<x", api.ErrSpread, 1},
	)
	checkRefused(t, api.Table{}, refusal{"&a<x", api.ErrReset, 0}, refusal{"&a=x", api.ErrReset, 0}, refusal{"&[before 1]a<x", api.ErrReset, 0})
	checkRefused(t, steep(), refusal{"&[before 1]d<x", api.ErrBefore, 0}, refusal{"&[before 2]b<<x", api.ErrBefore, 0}, refusal{"&[before 1]a<x", api.ErrBefore, 0}, refusal{"&[before 3]e<<<x", api.ErrBefore, 0}, refusal{"&[before 2]f<<x", api.ErrBefore, 0})
	checkAnswer(t, sample(), "&aaaa=x", changed(sample(), nil, entry("x", 1, 1, 1, 1)))
	checkAnswer(t, sample(), "&aa=x/aa", changed(sample(), nil, entry("x", 1, 1, 1, 1)))
	checkAnswer(t, api.Table{}, "", api.Table{})
}

// apart are n nodes of strength 1 with room between them, and an entry for the
// first and for the last.
func apart(n int) api.Table {
	var l []api.Node
	for i := range n {
		l = append(l, node(5*i+5, 8, 8))
	}
	return tableOf(l, entry("a", 0), entry("z", n-1))
}

func TestCompileOfMostNodesP11(t *testing.T) {
	full, almost := apart(api.MaxNodes), apart(api.MaxNodes-1)
	last := node(5*api.MaxNodes+1, 8, 8)
	checkRefused(t, full,
		refusal{"&a<x", api.ErrRoom, 0}, refusal{"&z<x", api.ErrRoom, 0}, refusal{"&z<<<a", api.ErrRoom, 0}, refusal{"&[before 1]a<x", api.ErrRoom, 0}, refusal{"&a=x&a=y&z<x", api.ErrRoom, 2},
		refusal{"&aaaa<x/a", api.ErrSpread, 0}, refusal{"&d<x", api.ErrReset, 0}, refusal{"&[before 2]a<<x", api.ErrBefore, 0}, refusal{"&a<x&d<x", api.ErrRoom, 0})
	checkAnswer(t, full, "&a=x=y/z", changed(full, nil, entry("x", 0), entry("y", 0, api.MaxNodes-1)))
	checkAnswer(t, almost, "&z<x", changed(almost, puts([]int{api.MaxNodes - 1}, node(last.P-5, 8, 8)), entry("x", api.MaxNodes-1)))
	checkAnswer(t, almost, "&a<<<x", changed(almost, puts([]int{1}, node(5, 8, 9)), entry("x", 1)))
	checkRefused(t, almost, refusal{"&z<x<y", api.ErrRoom, 1}, refusal{"&z<x<x", api.ErrRoom, 1}, refusal{"&z<x=y&a<x", api.ErrRoom, 2})
}

func TestCompileOfMostEntriesP11(t *testing.T) {
	full := tableOf([]api.Node{node(8, 8, 8)}, manyEntries(api.MaxEntries)...)
	almost := tableOf([]api.Node{node(8, 8, 8)}, manyEntries(api.MaxEntries-1)...)
	checkRefused(t, full, refusal{"&000<x", api.ErrRoom, 0}, refusal{"&000=x", api.ErrRoom, 0}, refusal{"&000=001=\x01", api.ErrRoom, 1}, refusal{"&000=x/y", api.ErrReset, 0}, refusal{"&000=001=001=x&x=y", api.ErrRoom, 2})
	checkAnswer(t, full, "&000<001=047", changed(full, puts([]int{1}, node(9, 8, 8)), entry("001", 1), entry("047", 1)))
	checkAnswer(t, almost, "&000=x=x=001", changed(almost, nil, entry("x", 0), entry("001", 0)))
	checkRefused(t, almost, refusal{"&000=x=y", api.ErrRoom, 1}, refusal{"&000=x=001=x<y", api.ErrRoom, 3})
}

func TestCompileFullP12(t *testing.T) {
	checkRefused(t, sample(),
		refusal{"&a<d<e<f<g<h<i<j<k", api.ErrFull, 0}, refusal{"&c=x&a<d<e<f<g<h<i<j<k", api.ErrFull, 0}, refusal{"&a<<<d<<<e<<<f<<<g<<<h<<<i<<<j<<<k", api.ErrFull, 0},
		refusal{"&a<d<e<f<g<h<i<j<k&d<x&q<y", api.ErrReset, 9}, refusal{"&a<d<e<f<g<h<i<j<k&aaaaa<x", api.ErrSpread, 8})

	// The greatest weights, and one more.
	for _, c := range []struct {
		n, next api.Node
		rules   string
	}{
		{node(249, 250, 250), node(250, 8, 8), "&a<x"}, {node(250, 1, 1), api.Node{}, "&a<x"},
		{node(250, 249, 250), node(250, 250, 8), "&a<<x"}, {node(1, 250, 1), api.Node{}, "&a<<x"}, {node(0, 250, 1), api.Node{}, "&a<<x"},
		{node(250, 250, 249), node(250, 250, 250), "&a<<<x"}, {node(1, 1, 250), api.Node{}, "&a<<<x"}, {node(0, 0, 250), api.Node{}, "&a<<<x"},
		{node(0, 0, 250), node(0, 1, 8), "&a<<x"}, {node(0, 250, 250), node(1, 8, 8), "&a<x"}, {node(0, 0, 1), node(0, 0, 2), "&a<<<x"}, {node(0, 0, 1), node(1, 8, 8), "&a<x"},
	} {
		x := tableOf([]api.Node{c.n}, entry("a", 0))
		if c.next == (api.Node{}) {
			checkRefused(t, x, refusal{c.rules, api.ErrFull, 0})
		} else {
			checkAnswer(t, x, c.rules, changed(x, puts([]int{1}, c.next), entry("x", 1)))
		}
	}

	// The node behind the new one must stay above it, with the strength that it had.
	for _, c := range []struct {
		n, next api.Node
		rules   string
		full    bool
	}{
		{node(8, 8, 8), node(9, 8, 7), "&a<x", true}, {node(8, 8, 8), node(9, 8, 8), "&a<x", true}, {node(8, 8, 8), node(9, 8, 9), "&a<x", true}, {node(8, 8, 8), node(9, 7, 9), "&a<x", true}, {node(8, 8, 8), node(9, 9, 8), "&a<x", true}, {node(8, 8, 8), node(10, 1, 1), "&a<x", false},
		{node(8, 8, 8), node(8, 9, 7), "&a<<x", true}, {node(8, 8, 8), node(8, 9, 8), "&a<<x", true}, {node(8, 8, 8), node(8, 9, 9), "&a<<x", true}, {node(8, 8, 8), node(8, 10, 1), "&a<<x", false},
		{node(8, 8, 8), node(8, 8, 9), "&a<<<x", true}, {node(8, 8, 8), node(8, 8, 10), "&a<<<x", false},
		{node(8, 8, 8), node(9, 1, 1), "&a<<x", false}, {node(8, 8, 8), node(9, 1, 1), "&a<<<x", false}, {node(8, 8, 8), node(8, 9, 1), "&a<<<x", false},
		{node(8, 8, 8), node(9, 8, 8), "&[before 1]b<x", true}, {node(8, 8, 8), node(10, 8, 8), "&[before 1]b<x", false}, {node(8, 8, 8), node(8, 9, 9), "&[before 2]b<<x", true}, {node(8, 8, 8), node(8, 8, 9), "&[before 3]b<<<x", true},
		{node(1, 8, 9), node(9, 9, 9), "&[before 1]a<x", true}, {node(1, 8, 8), node(9, 9, 9), "&[before 1]a<x", true}, {node(1, 9, 8), node(9, 9, 9), "&[before 1]a<x", true}, {node(2, 1, 1), node(9, 9, 9), "&[before 1]a<x", false},
		{node(0, 1, 9), node(9, 9, 9), "&[before 2]a<<x", true}, {node(0, 1, 8), node(9, 9, 9), "&[before 2]a<<x", true}, {node(0, 2, 1), node(9, 9, 9), "&[before 2]a<<x", false},
		{node(0, 0, 1), node(9, 9, 9), "&[before 3]a<<<x", true}, {node(0, 0, 2), node(9, 9, 9), "&[before 3]a<<<x", false},
	} {
		x := tableOf([]api.Node{c.n, c.next}, entry("a", 0), entry("b", 1))
		if _, e, _ := Compile(x, c.rules); (e == api.ErrFull) != c.full || !c.full && e != api.OK {
			t.Errorf("P12: Compile(%v, %q): %d, want ErrFull: %t", x, c.rules, e, c.full)
		}
		checkCompile(t, x, c.rules)
	}
}

// TestCompileOfSmallRulesP11P12: one or two relations of a few texts, in all
// orders, on tables with and without room.
func TestCompileOfSmallRulesP11P12(t *testing.T) {
	tight := tableOf([]api.Node{node(0, 1, 1), node(1, 1, 1), node(1, 1, 2), node(1, 3, 1), node(3, 9, 9)}, entry("a", 2), entry("b", 4, 0), entry("bb", 3), entry("c", 1, 1, 2))
	heads := []string{"&a", "&ab", "&bb", "&cb", "&x", "&[before 1]a", "&[before 2]bb", "&[before 3]a", "&[before 1]b", "&[before 2]b"}
	var relations []string
	for _, sign := range []string{"=", "<", "<<", "<<<"} {
		for _, text := range []string{"a", "bb", "x"} {
			relations = append(relations, sign+text, sign+text+"/b")
		}
	}
	for _, x := range []api.Table{tight, sample(), steep(), overlapping()} {
		for _, head := range heads {
			for _, one := range relations {
				checkCompile(t, x, head+one)
				for _, two := range relations {
					checkCompile(t, x, head+one+two)
					checkCompile(t, x, head+one+"&[before 1]x"+two)
					checkCompile(t, x, head+one+"&xa"+two)
				}
			}
		}
	}
}

// TestCompileOfAnyRulesP11P12: many rules on many tables. Each answer that
// there may be comes often enough.
func TestCompileOfAnyRulesP11P12(t *testing.T) {
	r := rand.New(rand.NewSource(12))
	var count [api.ErrFull + 1]int
	for i := range 60000 {
		x := wideTable(r)
		if i%4 == 0 {
			x = crowdedTable(r)
		}
		rules := plainWrite(rulesFor(r, x, 1+r.Intn(10)))
		checkCompile(t, x, rules)
		_, e, _ := Compile(x, rules)
		count[e]++
	}
	for _, e := range []api.Errno{api.OK, api.ErrReset, api.ErrBefore, api.ErrSpread, api.ErrRoom, api.ErrFull} {
		if count[e] < 500 {
			t.Errorf("P11, P12: the answer %d came %d times alone: %v", e, count[e], count)
		}
	}
}
