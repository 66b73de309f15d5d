package tailor

import (
	"math/rand"
	"slices"
	"testing"

	"tailor/api"
)

// samePieces tells whether a text has the same pieces by both tables, and
// which.
func samePieces(x, y api.Table, s string) ([]string, bool) {
	l, e := Pieces(x, s)
	m, f := Pieces(y, s)
	return l, e == api.OK && f == api.OK && slices.Equal(l, m)
}

// sameKeys tells whether a has the keys by x that b has by y.
func sameKeys(x api.Table, a string, y api.Table, b string) bool {
	for level := 1; level <= 3; level++ {
		k, e := Key(x, a, level)
		l, f := Key(y, b, level)
		if k != l || e != api.OK || f != api.OK {
			return false
		}
	}
	return true
}

// textOf makes a text of texts of a table's entries.
func textOf(r *rand.Rand, x api.Table, parts int) string {
	s := ""
	for range parts {
		if len(x.Entries) > 0 {
			s += x.Entries[r.Intn(len(x.Entries))].Text
		}
	}
	return s
}

// checkKept checks P13 of a table, what rules have made of it, and a text;
// it tells whether the promise says something about that text.
func checkKept(t *testing.T, x, y api.Table, rules []api.Rule, s string) bool {
	t.Helper()
	pieces, same := samePieces(x, y, s)
	named := slices.ContainsFunc(rules, func(r api.Rule) bool { return slices.Contains(pieces, r.Text) })
	if !same || named {
		return false
	}
	if !sameKeys(x, s, y, s) {
		t.Errorf("P13: %q has other keys by %v than by %v (%+v)", s, y, x, rules)
	}
	return true
}

func TestCompiledIsValidP13(t *testing.T) {
	r := rand.New(rand.NewSource(13))
	good, kept := 0, 0
	for i := range 20000 {
		x := wideTable(r)
		if i%4 == 0 {
			x = crowdedTable(r)
		}
		l := rulesFor(r, x, 1+r.Intn(8))
		y, e, _ := Compile(x, plainWrite(l))
		if v := Valid(y); v != api.OK {
			t.Errorf("P13: Compile(%v, %q) is not valid: %v, %d", x, plainWrite(l), y, v)
		}
		if e != api.OK {
			continue
		}
		good++
		for range 10 {
			if checkKept(t, x, y, l, textOf(r, x, 1+r.Intn(8))) {
				kept++
			}
		}
	}
	if good < 1000 || kept < 10000 {
		t.Errorf("P13: %d tables and %d texts alone", good, kept)
	}
}

// TestCompiledFurtherP13: rules on what rules have made.
func TestCompiledFurtherP13(t *testing.T) {
	x := steep()
	for _, rules := range []string{"&a<<<x<<y<z", "&[before 1]e<x&[before 2]g<<y", "&hi<ab=c/de", "&x<<<p&y<<q&ab<<r"} {
		y, e, at := Compile(x, rules)
		if v := Valid(y); e != api.OK || v != api.OK {
			t.Fatalf("P13: Compile(%v, %q): %v, %d, %d; Valid: %d", x, rules, y, e, at, v)
		}
		checkCompile(t, x, rules)
		l, _, _ := Read(rules)
		for _, s := range []string{"", "f", "fgh", "ifdhg", "jjj"} {
			if !checkKept(t, x, y, l, s) {
				t.Errorf("P13: %q has other pieces behind %q", s, rules)
			}
		}
		x = y
	}
}

// checkOrder checks P14 of a rule that stands alone, without a More, and of
// the table that it has made of another one; it tells whether the promise says
// something about it.
func checkOrder(t *testing.T, x, y api.Table, r api.Rule) bool {
	t.Helper()
	pieces, same := samePieces(x, y, r.Reset)
	if !same || slices.Contains(pieces, r.Text) {
		return false
	}
	if r.Level == 0 {
		if !sameKeys(y, r.Reset, y, r.Text) {
			t.Errorf("P14: by %v %q has other keys than %q", y, r.Reset, r.Text)
		}
		return true
	}
	want := -1
	if r.Before > 0 {
		want = 1
	}
	for level := 1; level <= r.Level; level++ {
		n, e := Compare(y, r.Reset, r.Text, level)
		if e != api.OK || level < r.Level && n != 0 || level == r.Level && n != want {
			t.Errorf("P14: %+v: by %v %q to %q on level %d: %d, %d", r, y, r.Reset, r.Text, level, n, e)
		}
	}
	return true
}

func TestOneRelationP14(t *testing.T) {
	r := rand.New(rand.NewSource(14))
	var count [4][4]int
	for i := range 60000 {
		x := wideTable(r)
		if i%4 == 0 {
			x = crowdedTable(r)
		}
		rule := rulesFor(r, x, 1)[0]
		rule.More = ""
		y, e, _ := Compile(x, plainWrite([]api.Rule{rule}))
		if e == api.OK && checkOrder(t, x, y, rule) {
			count[rule.Before][rule.Level]++
		}
	}
	for level := range 4 {
		if count[0][level] < 100 || level > 0 && count[level][level] < 100 {
			t.Errorf("P14: on level %d too few rules: %v", level, count)
		}
	}
}

// TestOneRelationOfEveryTextP14: each text of a table as the reset, alone and
// behind others, with each sign.
func TestOneRelationOfEveryTextP14(t *testing.T) {
	for _, x := range []api.Table{sample(), steep(), overlapping()} {
		for _, stem := range []string{"", "a", "ba", "aab"} {
			for _, last := range x.Entries {
				for level := range 4 {
					for _, before := range []int{0, level} {
						for _, text := range []string{"x", "\x00\x01", "b", last.Text} {
							rule := ruleOf(stem+last.Text, before, level, text, "")
							y, e, _ := Compile(x, plainWrite([]api.Rule{rule}))
							if e == api.OK {
								checkOrder(t, x, y, rule)
							}
						}
					}
				}
			}
		}
	}
	rule := ruleOf("ab", 0, 2, "x", "")
	y, e, _ := Compile(sample(), plainWrite([]api.Rule{rule}))
	if e != api.OK || !checkOrder(t, sample(), y, rule) {
		t.Errorf("P14: %+v: %v, %d", rule, y, e)
	}
}
