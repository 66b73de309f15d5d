package tailor

import (
	"fmt"
	"math"
	"math/rand"
	"reflect"
	"slices"
	"strings"
	"testing"

	"tailor/api"
)

// odd tables: what nobody should hand in, and what is at the bounds.
func oddTables() []api.Table {
	numbers := []int{math.MinInt, math.MinInt + 1, -251, -1, 0, 1, 8, 250, 251, 256, math.MaxInt}
	l := []api.Table{
		{}, sample(), overlapping(),
		{Nodes: make([]api.Node, 1000)}, {Entries: make([]api.Entry, 1000)},
		{Entries: make([]api.Entry, api.MaxEntries)},
		tableOf(manyNodes(api.MaxNodes), manyEntries(api.MaxEntries)...),
		tableOf(manyNodes(1), entry("a")), tableOf(manyNodes(1), entry("")), tableOf(manyNodes(1), entry("", 0)),
		tableOf(manyNodes(1), entry(strings.Repeat("a", 100000), 0)),
		tableOf(manyNodes(1), entry("a", make([]int, 100000)...)),
	}
	for _, n := range numbers {
		l = append(l, tableOf([]api.Node{node(n, 8, 8)}, entry("a", 0)), tableOf([]api.Node{node(0, n, 8)}, entry("a", 0)), tableOf([]api.Node{node(0, 0, n)}, entry("a", 0)))
		l = append(l, tableOf(manyNodes(2), entry("a", n)), tableOf(manyNodes(2), entry("a", 0, 1, 0, n)), tableOf(nil, entry("a", n)))
	}
	return l
}

func oddTexts() []string {
	return []string{
		"", "a", "'", "ab", "abc", "d", "\x00", "\xff\xff", "ä", "a\xc3",
		strings.Repeat("a", api.MaxText-1), strings.Repeat("a", api.MaxText), strings.Repeat("a", api.MaxText+1),
		strings.Repeat("\xff", api.MaxText), strings.Repeat("abc", 100000),
	}
}

func oddLevels() []int { return []int{math.MinInt, -1, 0, 1, 2, 3, 4, 250, math.MaxInt} }

// answers calls all that a table and texts can be asked, and lays what they
// answer in a list.
func answers(x api.Table, a, b string, level int) []string {
	l, pe := Pieces(x, a)
	n, ce := Compare(x, a, b, level)
	k, ke := Key(x, a, level)
	s, ee := Encode(x)
	y, de := Decode(s)
	z, oe := Decode(a)
	rules, re, at := Read(a)
	text, we := Write(rules)
	u, me, place := Compile(x, a)
	return []string{
		fmt.Sprint(Valid(x)), fmt.Sprintf("%q %d", l, pe), fmt.Sprint(n, ce), fmt.Sprintf("%q %d", k, ke),
		fmt.Sprintf("%q %d", s, ee), fmt.Sprint(y, de), fmt.Sprint(z, oe),
		fmt.Sprint(rules, re, at), fmt.Sprintf("%q %d", text, we),
		fmt.Sprint(u, me, place),
	}
}

// firstError tells the error that the document names first among those that
// apply to Compare; with a the same as b those of Key.
func firstError(x api.Table, a, b string, level int) api.Errno {
	if e := Valid(x); e != api.OK {
		return e
	}
	if len(a) > api.MaxText || len(b) > api.MaxText {
		return api.ErrLong
	}
	if level != 1 && level != 2 && level != 3 {
		return api.ErrLevel
	}
	_, okA := plainPieces(x, a)
	_, okB := plainPieces(x, b)
	if !okA || !okB {
		return api.ErrText
	}
	return api.OK
}

// TestEveryCallEndsP1: at odd arguments each call ends with the error that is
// named first, and with an error there is no other result.
func TestEveryCallEndsP1(t *testing.T) {
	for _, x := range oddTables() {
		for _, a := range oddTexts() {
			if l, e := Pieces(x, a); e != firstError(x, a, a, 1) || e != api.OK && len(l) > 0 {
				t.Errorf("P1: Pieces(%.200v, %.30q) = %q, %d", x, a, l, e)
			}
			for _, level := range oddLevels() {
				if k, e := Key(x, a, level); e != firstError(x, a, a, level) || e != api.OK && k != "" {
					t.Errorf("P1: Key(%.200v, %.30q, %d) = %x, %d", x, a, level, k, e)
				}
				for _, b := range oddTexts() {
					if n, e := Compare(x, a, b, level); e != firstError(x, a, b, level) || e != api.OK && n != 0 {
						t.Errorf("P1: Compare(%.200v, %.30q, %.30q, %d) = %d, %d", x, a, b, level, n, e)
					}
				}
			}
		}
	}
}

// TestAnswersHangOnArgumentsAloneP2: whatever was asked in between, the same
// arguments have the same answers.
func TestAnswersHangOnArgumentsAloneP2(t *testing.T) {
	var first [][]string
	for round := range 3 {
		i := 0
		for _, x := range []api.Table{sample(), overlapping(), {}, tableOf([]api.Node{{}})} {
			for _, a := range []string{"", "a", "ab", "abc", "a'b", "d", "&a<b", "&[before 2]c<<<d/e=f", "&a<b]", "&abcdefg", "&", "&[before 1]b<a=x/b", "&ab<<x<a<<<ab"} {
				for _, level := range []int{0, 1, 2, 3} {
					l := answers(x, a, "a", level)
					if round == 0 {
						first = append(first, l)
					} else if !reflect.DeepEqual(l, first[i]) {
						t.Errorf("P2: %q on level %d: %q, before %q", a, level, l, first[i])
					}
					i++
				}
			}
		}
	}
}

// roomy gives a copy of a table with spare room behind each list, filled with
// marks.
func roomy(x api.Table) api.Table {
	nodes := append(append([]api.Node{}, x.Nodes...), node(91, 92, 93), node(94, 95, 96))
	var entries []api.Entry
	for _, e := range x.Entries {
		numbers := append(append([]int{}, e.Nodes...), 77, 78)
		entries = append(entries, api.Entry{Text: e.Text, Nodes: numbers[:len(e.Nodes)]})
	}
	entries = append(entries, entry("mark", 99), entry("mark", 98))
	return api.Table{Nodes: nodes[:len(x.Nodes)], Entries: entries[:len(x.Entries)]}
}

// whole shows a table with the spare room of its lists.
func whole(x api.Table) string {
	entries := x.Entries[:cap(x.Entries)]
	var b strings.Builder
	fmt.Fprint(&b, len(x.Nodes), x.Nodes[:cap(x.Nodes)], len(x.Entries))
	for _, e := range entries {
		fmt.Fprintf(&b, " %q %d %v", e.Text, len(e.Nodes), e.Nodes[:cap(e.Nodes)])
	}
	return b.String()
}

// TestListsHandedInStayP2: no call writes into a table, nor behind its lists.
func TestListsHandedInStayP2(t *testing.T) {
	for _, x := range []api.Table{sample(), overlapping(), {}, tableOf([]api.Node{{}}), tableOf(manyNodes(1), entry("b", 0), entry("a", 0))} {
		y := roomy(x)
		before := whole(y)
		for _, a := range oddTexts() {
			for _, level := range oddLevels() {
				answers(y, a, "abc", level)
			}
		}
		if after := whole(y); after != before {
			t.Errorf("P2: written into:\n%s\nbefore\n%s", after, before)
		}
	}
}

// TestListsAreNotKeptP2: a table that the caller changes after a call has the
// answers of the changed one.
func TestListsAreNotKeptP2(t *testing.T) {
	x := sample()
	answers(x, "a'b", "b", 3)
	x.Nodes[1] = node(8, 8, 9)
	x.Entries[3].Nodes[0] = 4
	if k, e := Key(x, "ab", 3); k != "\x08\x18\x00\x08\x08\x00\x09\x08" || e != api.OK {
		t.Errorf("P2: Key after a change: %x, %d", k, e)
	}
	if s, e := Encode(x); s != tableText(x) || e != api.OK {
		t.Errorf("P2: Encode after a change: %x, %d", s, e)
	}
	x.Entries[4].Text = "d"
	if l, e := Pieces(x, "ad"); len(l) != 2 || e != api.OK {
		t.Errorf("P2: Pieces after a change: %q, %d", l, e)
	}
}

// TestListsThatComeOutAreNewP2: the caller may write into the pieces, their
// spare room too, and nothing else changes.
func TestListsThatComeOutAreNewP2(t *testing.T) {
	x := sample()
	for n := range 9 {
		s := strings.Repeat("ab", n)
		l, _ := Pieces(x, s)
		m, _ := Pieces(x, s)
		scribble(l)
		if strings.Join(m, "") != s || len(m) != len(s) {
			t.Errorf("P2: writing into one answer changed another: %q", m)
		}
		for _, p := range m[len(m):cap(m)] {
			if p == "scribble" {
				t.Errorf("P2: two answers share spare room")
			}
		}
		again, _ := Pieces(x, s)
		if strings.Join(again, "") != s {
			t.Errorf("P2: writing into an answer changed a later one: %q", again)
		}
	}
	if !reflect.DeepEqual(x, sample()) {
		t.Errorf("P2: writing into an answer changed the table: %v", x)
	}
}

func scribble(l []string) {
	l = l[:cap(l)]
	for i := range l {
		l[i] = "scribble"
	}
}

// rooms shows each list of a table, its spare room too.
func rooms(x api.Table) []string {
	l := []string{fmt.Sprint(x.Nodes[:cap(x.Nodes)]), fmt.Sprint(x.Entries[:cap(x.Entries)])}
	for _, e := range x.Entries {
		l = append(l, fmt.Sprint(e.Nodes[:cap(e.Nodes)]))
	}
	return l
}

// scribbleNumbers writes into the nodes of an entry, into the spare room too.
func scribbleNumbers(l []int) {
	l = l[:cap(l)]
	for i := range l {
		l[i] = -77
	}
}

// scribbleTable writes into every list of a table, into the spare room too.
func scribbleTable(x api.Table) {
	for _, e := range x.Entries {
		scribbleNumbers(e.Nodes)
	}
	nodes := x.Nodes[:cap(x.Nodes)]
	for i := range nodes {
		nodes[i] = node(-77, -77, -77)
	}
	entries := x.Entries[:cap(x.Entries)]
	for i := range entries {
		entries[i] = entry("scribble", -77)
	}
}

// checkNoSharedRoom writes into the nodes of each entry, into their spare room
// too, and looks that no other list of the table changes.
func checkNoSharedRoom(t *testing.T, x api.Table) {
	t.Helper()
	for i, written := range x.Entries {
		before := rooms(x)
		scribbleNumbers(written.Nodes)
		after := rooms(x)
		for k := range before {
			// The list of entries shows the numbers too.
			if k != 1 && k != i+2 && before[k] != after[k] {
				t.Errorf("P2: the nodes of %q share room with list %d: %s, before %s", written.Text, k, after[k], before[k])
			}
		}
	}
}

// TestListsOfATableShareNoRoomP2: of a table that comes out, what is written
// into one list, or into its spare room, changes no other one.
func TestListsOfATableShareNoRoomP2(t *testing.T) {
	for _, s := range []string{sampleText, tableText(overlapping()), tableText(fullTable())} {
		x, e := Decode(s)
		if e != api.OK {
			t.Fatalf("Decode(%x): %d", s, e)
		}
		checkNoSharedRoom(t, x)
	}
	for _, c := range compiles() {
		if x, e, _ := Compile(c.x, c.rules); e == api.OK {
			checkNoSharedRoom(t, x)
		}
	}
}

// TestTablesThatComeOutAreNewP2: the caller may write into a table that came
// out, and no other answer changes, neither one before nor one behind.
func TestTablesThatComeOutAreNewP2(t *testing.T) {
	for _, s := range []string{"\x00\x00", sampleText, tableText(overlapping()), tableText(fullTable())} {
		x, _ := Decode(s)
		y, _ := Decode(s)
		before := whole(y)
		scribbleTable(x)
		if after := whole(y); after != before {
			t.Errorf("P2: writing into one table changed another:\n%s\nbefore\n%s", after, before)
		}
		z, e := Decode(s)
		if tableText(z) != s || e != api.OK {
			t.Errorf("P2: writing into a table changed a later one: %v, %d", z, e)
		}
		if whole(z) != before {
			t.Errorf("P2: the spare room of a table is not new: %s, before %s", whole(z), before)
		}
	}
}

// compiling is a table and rules to hand to Compile.
type compiling struct {
	x     api.Table
	rules string
}

// compiles are tables and rules: such that make a table, with new nodes, new
// entries, both or neither, and such that are refused at each step.
func compiles() []compiling {
	var l []compiling
	for _, x := range []api.Table{{}, sample(), overlapping(), steep(), fullTable(), apart(api.MaxNodes)} {
		for _, rules := range []string{
			"", " ", "&a=x", "&a=x=y=z=w", "&a=x/a", "&ab=x=y/b=a", "&a=a", "&a<<<x", "&a<x<<y<<<z=w", "&b<a&a<b", "&[before 1]b<x", "&[before 3]b<<<x<<<y", "&000=001", "&000=001=002=003",
			"&a", "&a<abcd", "&d<x", "&a<x/q", "&a<x&[before 2]a<<y", "&a=x&aaaaaa=y", "&a=x&a<y", "&000=x", "&a<x<y<z<v<w<p<q<r<s",
		} {
			l = append(l, compiling{x, rules})
		}
	}
	return l
}

// TestTableHandedToCompileStaysP2: Compile does not write into the table, nor
// behind its lists, and what stands behind them is not read.
func TestTableHandedToCompileStaysP2(t *testing.T) {
	for _, c := range compiles() {
		want, wantE, wantAt := plainCompile(c.x, c.rules)
		x := roomy(c.x)
		before := whole(x)
		if y, e, at := Compile(x, c.rules); !sameTable(y, want) || e != wantE || at != wantAt {
			t.Errorf("P2: Compile(%v, %q) with spare room behind the lists: %v, %d, %d", c.x, c.rules, y, e, at)
		}
		if after := whole(x); after != before {
			t.Errorf("P2: Compile of %q has written into\n%s\nbefore\n%s", c.rules, after, before)
		}
	}
}

// TestCompiledTablesAreNewP2: what is written into the table that was handed
// in does not change the one that came out, nor the other way round, and no
// other answer changes.
func TestCompiledTablesAreNewP2(t *testing.T) {
	good := 0
	for _, c := range compiles() {
		x := roomy(c.x)
		y, e, _ := Compile(x, c.rules)
		z, _, _ := Compile(x, c.rules)
		if e != api.OK {
			continue
		}
		good++
		handed, out := whole(x), whole(z)
		scribbleTable(y)
		if after := whole(x); after != handed {
			t.Errorf("P2: writing into what Compile of %q gave changed what was handed in:\n%s\nbefore\n%s", c.rules, after, handed)
		}
		if after := whole(z); after != out {
			t.Errorf("P2: writing into one answer of %q changed another:\n%s\nbefore\n%s", c.rules, after, out)
		}
		if again, _, _ := Compile(x, c.rules); whole(again) != out {
			t.Errorf("P2: writing into an answer of %q changed a later one:\n%s\nbefore\n%s", c.rules, whole(again), out)
		}
		scribbleTable(x)
		if after := whole(z); after != out {
			t.Errorf("P2: writing into what was handed in changed what Compile of %q gave:\n%s\nbefore\n%s", c.rules, after, out)
		}
	}
	if good < 30 {
		t.Errorf("P2: %d tables came out alone", good)
	}
}

// TestTableIsNotKeptP2: a table that the caller changes after a call is
// compiled as it is then.
func TestTableIsNotKeptP2(t *testing.T) {
	x := sample()
	Compile(x, "&a<x")
	x.Nodes[1] = node(8, 8, 12)
	x.Entries[2].Nodes[0] = 4
	x.Entries[4].Text = "d"
	checkAnswer(t, x, "&a<x&d=y", changed(x, puts([]int{5}, node(25, 8, 8)), entry("x", 5), entry("y", 4)))
}

// TestCompileOfOddArgumentsP1: every table and every text has an answer.
func TestCompileOfOddArgumentsP1(t *testing.T) {
	texts := append(oddTexts(), "&a<x", "&a=x/a", "&[before 1]a<x", "&[before 3]a<<<x", "&aaaaaa<x", "&000<001", "&a<\x00=\xff\xff\xff", "&a"+strings.Repeat("<b", 59), "&a"+strings.Repeat("=a/a", 29), strings.Repeat("&a<<<a", 20))
	for _, x := range oddTables() {
		for _, s := range texts {
			checkCompile(t, x, s)
			if y, e, _ := Compile(x, s); e != api.OK && (len(y.Nodes) > 0 || len(y.Entries) > 0) {
				t.Errorf("P1: Compile(%.200v, %.130q) = %v, %d", x, s, y, e)
			}
		}
	}
	r := rand.New(rand.NewSource(15))
	for range 5000 {
		checkCompile(t, wideTable(r), plainWrite(randomRules(r)))
		checkCompile(t, sample(), randomBytes(r, r.Intn(api.MaxRules+4)))
	}
}

// lists are rules to hand to Write: such that can be written, and such that
// are refused for a rule or for their length.
func lists() [][]api.Rule {
	good := ruleOf("a", 0, 1, "b", "")
	return [][]api.Rule{
		nil, sampleList(), {good}, {ruleOf(" &<", 1, 1, "=/[", `]\`), good, good},
		{ruleOf("", 0, 1, "b", ""), good}, {good, ruleOf("", 1, 1, "b", "")}, {good, ruleOf("a", 0, 1, "abcd", "")},
		slices.Repeat([]api.Rule{good}, 30), slices.Repeat([]api.Rule{good}, 31),
	}
}

// TestRulesHandedInStayP2: Write does not write into the list that is handed
// in, nor behind it, and what stands behind it is not read.
func TestRulesHandedInStayP2(t *testing.T) {
	for _, l := range lists() {
		want, wantE := Write(slices.Clone(l))
		for _, mark := range []api.Rule{ruleOf("mark", 7, 7, "mark", "mark"), ruleOf("m", 0, 1, "m", "")} {
			room := append(slices.Clone(l), mark, mark)
			before := slices.Clone(room)
			if s, e := Write(room[:len(l)]); s != want || e != wantE {
				t.Errorf("P2: Write with spare room behind the list: %q, %d, want %q, %d", s, e, want, wantE)
			}
			if !slices.Equal(room, before) {
				t.Errorf("P2: Write has written into %v, before %v", room, before)
			}
		}
	}
}

// TestRulesAreNotKeptP2: rules that the caller changes after a call are written
// as they are then.
func TestRulesAreNotKeptP2(t *testing.T) {
	l := sampleList()
	Write(l)
	l[0] = ruleOf("b", 2, 2, "y", "z")
	l[3].Text = "="
	if s, e := Write(l); s != "&[before 2]b<<y/z<<<X&[before 1]c<ch/c=\\=" || e != api.OK {
		t.Errorf("P2: Write after a change: %q, %d", s, e)
	}
}

func scribbleRules(l []api.Rule) {
	l = l[:cap(l)]
	for i := range l {
		l[i] = ruleOf("scribble", -77, -77, "scribble", "scribble")
	}
}

// TestRulesThatComeOutAreNewP2: the caller may write into rules that came out,
// into their spare room too, and no other answer changes.
func TestRulesThatComeOutAreNewP2(t *testing.T) {
	for _, s := range []string{"", sampleRules, "&a<b", "&a<b&c<d", "&a<b<c&d<e<f<g", strings.Repeat("&a<b", 30), "&a" + strings.Repeat("=b", 59)} {
		want, _, _ := plainRead(s)
		l, _, _ := Read(s)
		m, _, _ := Read(s)
		spare := slices.Clone(m[:cap(m)])
		scribbleRules(l)
		if !slices.Equal(m, want) || !slices.Equal(m[:cap(m)], spare) {
			t.Errorf("P2: writing into one answer changed another: %v", m[:cap(m)])
		}
		again, e, _ := Read(s)
		if !slices.Equal(again, want) || e != api.OK || !slices.Equal(again[:cap(again)], spare) {
			t.Errorf("P2: writing into an answer changed a later one: %v", again[:cap(again)])
		}
	}
}
