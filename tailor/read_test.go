package tailor

import (
	"fmt"
	"math/rand"
	"slices"
	"strings"
	"testing"

	"tailor/api"
)

func checkRead(t *testing.T, s string) {
	t.Helper()
	l, e, at := Read(s)
	if want, wantE, wantAt := plainRead(s); !slices.Equal(l, want) || e != wantE || at != wantAt {
		t.Errorf("P9: Read(%.130q) = %+v, %d, %d, want %+v, %d, %d", s, l, e, at, want, wantE, wantAt)
	}
}

func TestReadP9(t *testing.T) {
	for _, c := range []struct {
		s string
		l []api.Rule
	}{
		{sampleRules, sampleList()},
		{"", nil}, {" ", nil}, {strings.Repeat(" ", api.MaxRules), nil},
		{"&a<b", []api.Rule{ruleOf("a", 0, 1, "b", "")}},
		{"&a<<b", []api.Rule{ruleOf("a", 0, 2, "b", "")}},
		{"&a<<<b", []api.Rule{ruleOf("a", 0, 3, "b", "")}},
		{"&a=b", []api.Rule{ruleOf("a", 0, 0, "b", "")}},
		{"&a<b/c", []api.Rule{ruleOf("a", 0, 1, "b", "c")}},
		{"&[before 1]a<b", []api.Rule{ruleOf("a", 1, 1, "b", "")}},
		{"&[before 2]a<<b", []api.Rule{ruleOf("a", 2, 2, "b", "")}},
		{"&[before 3]a<<<b", []api.Rule{ruleOf("a", 3, 3, "b", "")}},

		// That the level is another one than that of the before is no fault of the rules as a text.
		{"&[before 3]a<b", []api.Rule{ruleOf("a", 3, 1, "b", "")}},
		{"&[before 1]a=b", []api.Rule{ruleOf("a", 1, 0, "b", "")}},

		// Reset and Before stand in the chain's first relation alone, and each chain has its own.
		{"&[before 1]a<b<c", []api.Rule{ruleOf("a", 1, 1, "b", ""), ruleOf("", 0, 1, "c", "")}},
		{"&[before 1]a<b&c<d", []api.Rule{ruleOf("a", 1, 1, "b", ""), ruleOf("c", 0, 1, "d", "")}},
		{"&a<b/c&[before 2]d=e/f<g", []api.Rule{ruleOf("a", 0, 1, "b", "c"), ruleOf("d", 2, 0, "e", "f"), ruleOf("", 0, 1, "g", "")}},
		{"&a<b/c<d", []api.Rule{ruleOf("a", 0, 1, "b", "c"), ruleOf("", 0, 1, "d", "")}},

		// Spaces between all tokens.
		{"  &  [before 2]  ab  <<  c  /  de  =  f  ", []api.Rule{ruleOf("ab", 2, 2, "c", "de"), ruleOf("", 0, 0, "f", "")}},
		{"& a < b & c < d ", []api.Rule{ruleOf("a", 0, 1, "b", ""), ruleOf("c", 0, 1, "d", "")}},

		// Signs with a backslash before them, bytes that need none, and such that have one all the same.
		{`&\ \&\<<\=\/\[/\]\\`, []api.Rule{ruleOf(" &<", 0, 1, "=/[", `]\`)}},
		{`&\a\b<\c/\d`, []api.Rule{ruleOf("ab", 0, 1, "c", "d")}},
		{"&\t\n\r<\x00\x7f\x80/\xff'\"", []api.Rule{ruleOf("\t\n\r", 0, 1, "\x00\x7f\x80", "\xff'\"")}},
		{"&\\\x00<\\\xff\\\n", []api.Rule{ruleOf("\x00", 0, 1, "\xff\n", "")}},
		{"&ä<é", []api.Rule{ruleOf("ä", 0, 1, "é", "")}},
		{"&before<>1#/%", []api.Rule{ruleOf("before", 0, 1, ">1#", "%")}},

		// The longest parts; a backslash does not count.
		{"&abcdef<abc/abcdef", []api.Rule{ruleOf("abcdef", 0, 1, "abc", "abcdef")}},
		{`&\a\b\c\d\e\f<\a\b\c/\a\b\c\d\e\f`, []api.Rule{ruleOf("abcdef", 0, 1, "abc", "abcdef")}},
		{`&\\\\\\\\\\\\<\ \ \ `, []api.Rule{ruleOf(`\\\\\\`, 0, 1, "   ", "")}},
	} {
		if l, e, at := Read(c.s); !slices.Equal(l, c.l) || e != api.OK || at != 0 {
			t.Errorf("P9: Read(%q) = %+v, %d, %d, want %+v, 0, 0", c.s, l, e, at, c.l)
		}
		checkRead(t, c.s)
	}
}

func TestReadRefusesP9(t *testing.T) {
	for _, c := range []struct {
		s  string
		e  api.Errno
		at int
	}{
		// Tokens that may not stand where they stand.
		{"a<b", api.ErrRule, 0}, {"<b", api.ErrRule, 0}, {"=b", api.ErrRule, 0}, {"/b", api.ErrRule, 0}, {"[before 1]a<b", api.ErrRule, 0},
		{"  a", api.ErrRule, 2}, {"&&a<b", api.ErrRule, 1}, {"&<b", api.ErrRule, 1}, {"&<<<b", api.ErrRule, 1}, {"&=b", api.ErrRule, 1}, {"&/b", api.ErrRule, 1},
		{"&[before 1]&a<b", api.ErrRule, 11}, {"&[before 1]<b", api.ErrRule, 11}, {"&[before 1]/b", api.ErrRule, 11}, {"&[before 1] [before 2]a<b", api.ErrRule, 12},
		{"&a b<c", api.ErrRule, 3}, {"&a&b<c", api.ErrRule, 2}, {"&a/b<c", api.ErrRule, 2}, {"&a[before 1]<b", api.ErrRule, 2},
		{"&a<&b", api.ErrRule, 3}, {"&a<=b", api.ErrRule, 3}, {"&a< <b", api.ErrRule, 4}, {"&a</b", api.ErrRule, 3}, {"&a<[before 1]b", api.ErrRule, 3},
		{"&a<b c", api.ErrRule, 5}, {"&a<b[before 1]", api.ErrRule, 4}, {"&a<b<c d", api.ErrRule, 7},
		{"&a<b/<c", api.ErrRule, 5}, {"&a<b/&c<d", api.ErrRule, 5}, {"&a<b//c", api.ErrRule, 5}, {"&a<b/[before 1]c", api.ErrRule, 5},
		{"&a<b/c/d", api.ErrRule, 6}, {"&a<b/c d", api.ErrRule, 7}, {"&a<b/c[before 1]", api.ErrRule, 6},
		{"&a<<<<b", api.ErrRule, 5}, {"&a<<<<<b", api.ErrRule, 5}, {"&a==b", api.ErrRule, 3}, {"&a<<=b", api.ErrRule, 4}, {"&a=<<b", api.ErrRule, 3},

		// Bytes that begin no token.
		{"]", api.ErrRule, 0}, {"[", api.ErrRule, 0}, {`\`, api.ErrRule, 0}, {" ]", api.ErrRule, 1},
		{"&]", api.ErrRule, 1}, {"&a]<b", api.ErrRule, 2}, {"&a<]", api.ErrRule, 3}, {"&a<b]", api.ErrRule, 4}, {"&a<b/]", api.ErrRule, 5}, {"&a<b/c]", api.ErrRule, 6}, {"&a<b ]", api.ErrRule, 5},
		{`&\`, api.ErrRule, 1}, {`&a\`, api.ErrRule, 2}, {`&a<\`, api.ErrRule, 3}, {`&a<b\`, api.ErrRule, 4}, {`&a<b/\`, api.ErrRule, 5}, {`&a<b/c\`, api.ErrRule, 6}, {`&a<b \`, api.ErrRule, 5}, {`&a<\\\`, api.ErrRule, 5}, {`&a\ \`, api.ErrRule, 4},

		// Before-tokens of other bytes.
		{"&[before 0]a<b", api.ErrRule, 1}, {"&[before 4]a<b", api.ErrRule, 1}, {"&[before 12]a<b", api.ErrRule, 1}, {"&[before  1]a<b", api.ErrRule, 1}, {"&[before1]a<b", api.ErrRule, 1}, {"&[before 1 ]a<b", api.ErrRule, 1}, {"&[ before 1]a<b", api.ErrRule, 1},
		{"&[Before 1]a<b", api.ErrRule, 1}, {"&[before\t1]a<b", api.ErrRule, 1}, {"&[before 1a<b", api.ErrRule, 1}, {"&[before 1", api.ErrRule, 1}, {"&[before ", api.ErrRule, 1}, {"&[b", api.ErrRule, 1}, {"&[", api.ErrRule, 1}, {"&[before 1)a<b", api.ErrRule, 1}, {"&[befor\\e 1]a<b", api.ErrRule, 1},

		// Rules that end too early.
		{"&", api.ErrRule, 1}, {"& ", api.ErrRule, 2}, {"&[before 1]", api.ErrRule, 11}, {"&[before 1]  ", api.ErrRule, 13}, {"&a", api.ErrRule, 2}, {"&a ", api.ErrRule, 3}, {"&[before 1]a", api.ErrRule, 12}, {"&a<", api.ErrRule, 3}, {"&a<<<   ", api.ErrRule, 8}, {"&a=", api.ErrRule, 3}, {"&a<b/", api.ErrRule, 5}, {"&a<b/ ", api.ErrRule, 6}, {"&a<b&", api.ErrRule, 5}, {"&a<b&c", api.ErrRule, 6}, {"&a<b&c<", api.ErrRule, 7}, {"&a<b<", api.ErrRule, 5},
		{"&" + strings.Repeat(" ", api.MaxRules-1), api.ErrRule, api.MaxRules},

		// Parts that are too long.
		{"&abcdefg<b", api.ErrPart, 1}, {"& abcdefg<b", api.ErrPart, 2}, {"&[before 1]abcdefg<b", api.ErrPart, 11}, {"&abcdefg", api.ErrPart, 1}, {`&abcdef\g<b`, api.ErrPart, 1}, {"&a<b&abcdefg<b", api.ErrPart, 5},
		{"&a<abcd", api.ErrPart, 3}, {"&a<  abcd", api.ErrPart, 5}, {"&a<b<abcd", api.ErrPart, 5}, {`&a<\a\b\c\d`, api.ErrPart, 3}, {"&a<éé", api.ErrPart, 3}, {"&a=abcd/x", api.ErrPart, 3}, {"&a<<<abcd", api.ErrPart, 5},
		{"&a<b/abcdefg", api.ErrPart, 5}, {"&a<b/ abcdefg", api.ErrPart, 6}, {"&a<b/c<d/abcdefg", api.ErrPart, 9},
		{"&" + strings.Repeat("a", api.MaxRules-1), api.ErrPart, 1},

		// The first thing from the left, where several are wrong.
		{"&abcdefg]", api.ErrPart, 1}, {"&abcdefg<abcd", api.ErrPart, 1}, {"&a<abcd]", api.ErrPart, 3}, {`&a<abcd\`, api.ErrPart, 3}, {"&a<abcd efg", api.ErrPart, 3}, {"&a<abcd/abcdefg", api.ErrPart, 3}, {"&a<b/abcdefg/", api.ErrPart, 5},
		{"&]abcdefg<b", api.ErrRule, 1}, {"&a<abc]abcd", api.ErrRule, 6}, {"&a abcdefg<b", api.ErrRule, 3}, {"&a<b abcdefg", api.ErrRule, 5}, {"abcdefg<b", api.ErrRule, 0}, {"&a<b/c abcdefg", api.ErrRule, 7}, {"&a]]", api.ErrRule, 2}, {"&a/abcdefg", api.ErrRule, 2},

		// Length before everything.
		{strings.Repeat(" ", api.MaxRules+1), api.ErrLong, 0}, {"&a<b" + strings.Repeat(" ", api.MaxRules-3), api.ErrLong, 0}, {strings.Repeat("]", api.MaxRules+1), api.ErrLong, 0}, {"&a<abcd" + strings.Repeat("]", api.MaxRules), api.ErrLong, 0}, {strings.Repeat("a", 5000000), api.ErrLong, 0},
	} {
		if l, e, at := Read(c.s); len(l) != 0 || e != c.e || at != c.at {
			t.Errorf("P9: Read(%.130q) = %+v, %d, %d, want the error %d at %d", c.s, l, e, at, c.e, c.at)
		}
		checkRead(t, c.s)
	}
}

// TestReadOfTheGreatestLengthP9: rules of just the length that they may have,
// with the most relations that there can be, and with the fewest.
func TestReadOfTheGreatestLengthP9(t *testing.T) {
	for _, s := range []string{
		"&a" + strings.Repeat("<b", (api.MaxRules-2)/2),
		strings.Repeat("&a=b", api.MaxRules/4),
		"&a<b" + strings.Repeat(" ", api.MaxRules-4),
		strings.Repeat(" ", api.MaxRules-4) + "&a<b",
		strings.Repeat(`&\a<\b/\c\ `, 11)[:api.MaxRules-2] + "  ",
	} {
		l, e, at := Read(s)
		if len(s) != api.MaxRules || e != api.OK || at != 0 || len(l) == 0 {
			t.Errorf("P9: Read(%q) (%d bytes) = %d rules, %d, %d", s, len(s), len(l), e, at)
		}
		checkRead(t, s)
		if l, e, at := Read(s + " "); len(l) > 0 || e != api.ErrLong || at != 0 {
			t.Errorf("P9: Read of a byte more = %d rules, %d, %d, want ErrLong", len(l), e, at)
		}
	}
}

// TestReadOfEveryByteP9: each byte alone, behind a backslash, in a reset, in a
// text, in a more and between tokens.
func TestReadOfEveryByteP9(t *testing.T) {
	for c := range 256 {
		b := string([]byte{byte(c)})
		plain := !strings.Contains(` &<=/[]\`, b)
		for _, form := range []string{"%s", "&%s<b", "&a<%s", "&a<%sc", "&a<b%s", "&a<b/%s", "&a<b/%sc", "&a%s<b", "&a<b%s<c", "&[before%s1]a<b", "&[before %s]a<b", "%s&a<b"} {
			checkRead(t, fmt.Sprintf(form, b))
			checkRead(t, fmt.Sprintf(form, `\`+b))
		}
		want := []api.Rule{ruleOf(b, 0, 1, b, b)}
		if l, e, _ := Read(`&\` + b + `<\` + b + `/\` + b); !slices.Equal(l, want) || e != api.OK {
			t.Errorf("P9: %q with backslashes: %+v, %d", b, l, e)
		}
		if l, e, _ := Read("&" + b + "<" + b + "/" + b); plain != (e == api.OK) || plain != slices.Equal(l, want) {
			t.Errorf("P9: %q without backslashes: %+v, %d", b, l, e)
		}
	}
}

// TestReadOfTokensInAnyOrderP9: all orders of a few tokens and other bytes.
func TestReadOfTokensInAnyOrderP9(t *testing.T) {
	things := []string{"&", "[before 2]", "<", "<<", "=", "/", "a", "abcd", "abcdefg", " ", `\`, "]"}
	texts := []string{""}
	for range 5 {
		var longer []string
		for _, s := range texts {
			for _, x := range things {
				longer = append(longer, s+x)
			}
		}
		for _, s := range longer {
			checkRead(t, s)
		}
		texts = longer
	}
}

// TestReadOfChangedRulesP9: rules that are such, and the same with a byte
// changed, taken out, put in, or cut off behind it.
func TestReadOfChangedRulesP9(t *testing.T) {
	r := rand.New(rand.NewSource(9))
	for range 20000 {
		s := plainWrite(randomRules(r))
		checkRead(t, s)
		if s == "" {
			continue
		}
		i := r.Intn(len(s))
		checkRead(t, s[:i])
		checkRead(t, s[:i]+s[i+1:])
		checkRead(t, s[:i]+randomBytes(r, 1)+s[i+1:])
		checkRead(t, s[:i]+randomBytes(r, 1)+s[i:])
	}
}

// TestReadOfOddTextsP1: every text has an answer.
func TestReadOfOddTextsP1(t *testing.T) {
	for _, s := range oddTexts() {
		checkRead(t, s)
	}
	r := rand.New(rand.NewSource(10))
	for range 20000 {
		checkRead(t, randomBytes(r, r.Intn(api.MaxRules+4)))
	}
}
