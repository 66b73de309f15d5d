package tailor

import (
	"math"
	"math/rand"
	"slices"
	"strings"
	"testing"

	"tailor/api"
)

func TestWriteP10(t *testing.T) {
	for _, c := range []struct {
		l []api.Rule
		s string
	}{
		{nil, ""}, {[]api.Rule{}, ""},
		{sampleList(), "&a<x<<<X&[before 1]c<ch/c=q"},
		{[]api.Rule{ruleOf("a", 0, 0, "b", "")}, "&a=b"},
		{[]api.Rule{ruleOf("a", 0, 1, "b", "")}, "&a<b"},
		{[]api.Rule{ruleOf("a", 0, 2, "b", "")}, "&a<<b"},
		{[]api.Rule{ruleOf("a", 0, 3, "b", "c")}, "&a<<<b/c"},
		{[]api.Rule{ruleOf("a", 1, 1, "b", "")}, "&[before 1]a<b"},
		{[]api.Rule{ruleOf("a", 2, 2, "b", "")}, "&[before 2]a<<b"},
		{[]api.Rule{ruleOf("a", 3, 0, "b", "")}, "&[before 3]a=b"},
		{[]api.Rule{ruleOf("a", 0, 1, "b", ""), ruleOf("c", 0, 1, "d", ""), ruleOf("", 0, 1, "e", "f")}, "&a<b&c<d<e/f"},
		{[]api.Rule{ruleOf("abcdef", 0, 1, "abc", "abcdef")}, "&abcdef<abc/abcdef"},
		{[]api.Rule{ruleOf(" &<", 1, 1, "=/[", `]\`)}, `&[before 1]\ \&\<<\=\/\[/\]\\`},
		{[]api.Rule{ruleOf("\t\n\x00", 0, 1, "\xff\x80'", ">()-é")}, "&\t\n\x00<\xff\x80'/>()-é"},
		{[]api.Rule{ruleOf("      ", 0, 1, "   ", `\\\\\\`)}, `&\ \ \ \ \ \ <\ \ \ /\\\\\\\\\\\\`},
	} {
		if s, e := Write(c.l); s != c.s || e != api.OK {
			t.Errorf("P10: Write(%+v) = %q, %d, want %q, 0", c.l, s, e, c.s)
		}
	}
}

// TestWriteRefusesP10: each thing that may be wrong with a rule, in the first
// one and in a later one.
func TestWriteRefusesP10(t *testing.T) {
	good := ruleOf("a", 0, 1, "b", "")
	for _, c := range []struct {
		r     api.Rule
		first api.Errno
		later api.Errno
	}{
		{ruleOf("a", 0, 1, "abc", "abcdef"), api.OK, api.OK},
		{ruleOf("abcdef", 3, 3, "abc", ""), api.OK, api.OK},
		{ruleOf("", 0, 1, "b", ""), api.ErrRule, api.OK},
		{ruleOf("", 0, 0, "b", "abcdef"), api.ErrRule, api.OK},
		{api.Rule{}, api.ErrRule, api.ErrRule},
		{ruleOf("a", 0, 1, "", ""), api.ErrRule, api.ErrRule},
		{ruleOf("", 0, 1, "", "c"), api.ErrRule, api.ErrRule},
		{ruleOf("a", 0, 1, "abcd", ""), api.ErrRule, api.ErrRule},
		{ruleOf("", 0, 1, "abcd", ""), api.ErrRule, api.ErrRule},
		{ruleOf("a", 0, 1, strings.Repeat("a", 1000000), ""), api.ErrRule, api.ErrRule},
		{ruleOf("a", 0, 1, "b", "abcdefg"), api.ErrRule, api.ErrRule},
		{ruleOf("a", 0, 1, "b", strings.Repeat("a", 1000000)), api.ErrRule, api.ErrRule},
		{ruleOf("abcdefg", 0, 1, "b", ""), api.ErrRule, api.ErrRule},
		{ruleOf(strings.Repeat("a", 1000000), 0, 1, "b", ""), api.ErrRule, api.ErrRule},
		{ruleOf("a", 0, -1, "b", ""), api.ErrRule, api.ErrRule},
		{ruleOf("a", 0, 4, "b", ""), api.ErrRule, api.ErrRule},
		{ruleOf("", 0, 4, "b", ""), api.ErrRule, api.ErrRule},
		{ruleOf("a", 0, math.MinInt, "b", ""), api.ErrRule, api.ErrRule},
		{ruleOf("a", 0, math.MaxInt, "b", ""), api.ErrRule, api.ErrRule},
		{ruleOf("a", -1, 1, "b", ""), api.ErrRule, api.ErrRule},
		{ruleOf("a", 4, 1, "b", ""), api.ErrRule, api.ErrRule},
		{ruleOf("a", math.MinInt, 1, "b", ""), api.ErrRule, api.ErrRule},
		{ruleOf("a", math.MaxInt, 1, "b", ""), api.ErrRule, api.ErrRule},
		{ruleOf("", 1, 1, "b", ""), api.ErrRule, api.ErrRule},
		{ruleOf("", 2, 2, "b", ""), api.ErrRule, api.ErrRule},
		{ruleOf("", 3, 3, "b", ""), api.ErrRule, api.ErrRule},
		{ruleOf("", -1, 1, "b", ""), api.ErrRule, api.ErrRule},
	} {
		for _, try := range []struct {
			l []api.Rule
			e api.Errno
		}{{[]api.Rule{c.r}, c.first}, {[]api.Rule{c.r, good}, c.first}, {[]api.Rule{good, c.r}, c.later}, {[]api.Rule{good, good, c.r, good}, c.later}} {
			s, e := Write(try.l)
			if e != try.e || (e == api.OK) != (s != "") {
				t.Errorf("P10: Write(%.200v) = %q, %d, want the error %d", try.l, s, e, try.e)
			}
		}
	}
}

// TestWriteOfTheGreatestLengthP10: what is written may be just so long; a
// backslash counts, and a before-token, a reset and a more do.
func TestWriteOfTheGreatestLengthP10(t *testing.T) {
	for _, c := range []struct {
		short api.Rule
		long  api.Rule
	}{
		{ruleOf("", 0, 1, "b", ""), ruleOf("", 0, 1, "bb", "")},
		{ruleOf("", 0, 1, "b", ""), ruleOf("", 0, 2, "b", "")},
		{ruleOf("", 0, 1, "b", ""), ruleOf("", 0, 1, " ", "")},
		{ruleOf("", 0, 1, "b", "c"), ruleOf("", 0, 1, "b", "cc")},
		{ruleOf("", 0, 1, "b", "c"), ruleOf("", 0, 1, "b", "]")},
		{ruleOf("a", 0, 1, "b", ""), ruleOf("aa", 0, 1, "b", "")},
		{ruleOf("a", 0, 1, "b", ""), ruleOf("&", 0, 1, "b", "")},
		{ruleOf("a", 3, 1, "b", ""), ruleOf("aa", 3, 1, "b", "")},
	} {
		l := filledRules(api.MaxRules - len(plainWrite([]api.Rule{c.short})))
		if s, e := Write(append(slices.Clone(l), c.short)); len(s) != api.MaxRules || e != api.OK {
			t.Errorf("P10: Write of %d bytes: %q, %d", api.MaxRules, s, e)
		}
		if s, e := Write(append(slices.Clone(l), c.long)); s != "" || e != api.ErrLong {
			t.Errorf("P10: Write of a byte more: %q, %d, want ErrLong", s, e)
		}
	}
}

// filledRules are rules that are written with just so many bytes.
func filledRules(length int) []api.Rule {
	l := []api.Rule{ruleOf("a", 0, 1, "b", "")}
	for n := 4; n < length; n += 2 {
		l = append(l, ruleOf("", 0, 1, "b", ""))
	}
	if length%2 == 1 {
		l[0].Reset = "aa"
		l = l[:len(l)-1]
	}
	return l
}

// TestWriteRuleBeforeLengthP10: a rule that is none, wherever it stands, is
// told before the length.
func TestWriteRuleBeforeLengthP10(t *testing.T) {
	for _, n := range []int{59, 60, 100, 10000} {
		l := []api.Rule{ruleOf("a", 0, 1, "b", "")}
		for len(l) < n {
			l = append(l, ruleOf("", 0, 1, "b", ""))
		}
		want := api.ErrLong
		if n == 59 {
			want = api.OK
		}
		if s, e := Write(l); e != want || e != api.OK && s != "" {
			t.Errorf("P10: Write of %d rules: %q, %d, want %d", n, s, e, want)
		}
		for _, i := range []int{0, 1, n / 2, n - 1} {
			bad := slices.Clone(l)
			bad[i].Text = ""
			if s, e := Write(bad); s != "" || e != api.ErrRule {
				t.Errorf("P10: Write of %d rules, number %d none: %q, %d", n, i, s, e)
			}
		}
		l[0].Reset = ""
		if s, e := Write(l); s != "" || e != api.ErrRule {
			t.Errorf("P10: Write of %d rules without a first reset: %q, %d", n, s, e)
		}
	}
}

// TestWriteOfEveryByteP10: a backslash stands before the signs and the space,
// and nowhere else.
func TestWriteOfEveryByteP10(t *testing.T) {
	for c := range 256 {
		b := string([]byte{byte(c)})
		want := b
		if strings.Contains(` &<=/[]\`, b) {
			want = `\` + b
		}
		if s, e := Write([]api.Rule{ruleOf(b, 0, 1, b, b)}); s != "&"+want+"<"+want+"/"+want || e != api.OK {
			t.Errorf("P10: Write of %q: %q, %d", b, s, e)
		}
	}
}

// TestReadTurnsWriteP9P10: there and back, in both directions.
func TestReadTurnsWriteP9P10(t *testing.T) {
	r := rand.New(rand.NewSource(11))
	long := 0
	for range 20000 {
		l := randomRules(r)
		want := plainWrite(l)
		s, e := Write(l)
		if len(want) > api.MaxRules {
			long++
			if s != "" || e != api.ErrLong {
				t.Errorf("P10: Write(%+v) = %q, %d, want ErrLong", l, s, e)
			}
			continue
		}
		if s != want || e != api.OK {
			t.Errorf("P10: Write(%+v) = %q, %d, want %q", l, s, e, want)
		}
		again, e, at := Read(s)
		if !slices.Equal(again, l) || e != api.OK || at != 0 {
			t.Errorf("P9: Read(Write(%+v)) = %+v, %d, %d", l, again, e, at)
		}
	}
	if long == 0 {
		t.Errorf("no rules above the bound were tried")
	}
}
