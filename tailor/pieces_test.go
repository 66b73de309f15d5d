package tailor

import (
	"math/rand"
	"slices"
	"strings"
	"testing"

	"tailor/api"
)

func TestPiecesP4(t *testing.T) {
	for _, c := range []struct {
		t    api.Table
		s    string
		want []string
		e    api.Errno
	}{
		{sample(), "a'b", []string{"a", "'", "b"}, api.OK},
		{sample(), "aAaA", []string{"a", "A", "a", "A"}, api.OK},
		{sample(), "", nil, api.OK},
		{sample(), "ad", nil, api.ErrText},
		{sample(), "da", nil, api.ErrText},
		{sample(), "a\x00", nil, api.ErrText},
		{sample(), "\xc3\xa4", nil, api.ErrText},

		{api.Table{}, "", nil, api.OK},
		{api.Table{}, "a", nil, api.ErrText},
		{tableOf(manyNodes(1)), "a", nil, api.ErrText},

		{overlapping(), "abc", []string{"abc"}, api.OK},
		{overlapping(), "abb", []string{"ab", "b"}, api.OK},
		{overlapping(), "aab", []string{"a", "ab"}, api.OK},
		{overlapping(), "abcabca", []string{"abc", "abc", "a"}, api.OK},
		{overlapping(), "bcabca", []string{"bca", "bca"}, api.OK},
		{overlapping(), "\x00\xffa", []string{"\x00", "\xff", "a"}, api.OK},
		// The longest text is taken, though a shorter one would let the rest be cut.
		{tableOf(manyNodes(1), entry("a", 0), entry("ab", 0), entry("bc", 0)), "abc", nil, api.ErrText},
		// Nothing stands where only the beginning of an entry's text is left.
		{overlapping(), "bc", nil, api.ErrText},
		{tableOf(manyNodes(1), entry("ab", 0)), "aba", nil, api.ErrText},
		{overlapping(), "bcb", nil, api.ErrText},

		{sample(), strings.Repeat("d", api.MaxText), nil, api.ErrText},
		{sample(), strings.Repeat("a", api.MaxText+1), nil, api.ErrLong},
		{sample(), strings.Repeat("d", api.MaxText+1), nil, api.ErrLong},
		{sample(), strings.Repeat("a", 100000), nil, api.ErrLong},
		{tableOf([]api.Node{{}}), strings.Repeat("d", api.MaxText+1), nil, api.ErrNode},
		{tableOf(nil, entry("a", 0)), "a", nil, api.ErrEntry},
		{tableOf(manyNodes(api.MaxNodes + 1)), "", nil, api.ErrSize},
	} {
		l, e := Pieces(c.t, c.s)
		if e != c.e || !slices.Equal(l, c.want) {
			t.Errorf("P4: Pieces(%v, %.30q) = %q, %d, want %q, %d", c.t, c.s, l, e, c.want, c.e)
		}
	}
}

func TestPiecesAtMaxText(t *testing.T) {
	for _, text := range []string{"a", "ab", "abc"} {
		x := tableOf(manyNodes(1), entry(text, 0))
		n := api.MaxText / len(text)
		l, e := Pieces(x, strings.Repeat(text, n))
		if e != api.OK || !slices.Equal(l, slices.Repeat([]string{text}, n)) {
			t.Errorf("P4: %q repeated up to MaxText: %q, %d", text, l, e)
		}
	}
}

func TestPiecesOfRandomTables(t *testing.T) {
	r := rand.New(rand.NewSource(4))
	cuts := 0
	for range 20000 {
		x := randomTable(r)
		s := randomText(r, r.Intn(7))
		var want []string
		pieces, ok := plainPieces(x, s)
		wantErr := api.ErrText
		if ok {
			wantErr = api.OK
			for _, p := range pieces {
				want = append(want, p.Text)
			}
			cuts++
		}
		l, e := Pieces(x, s)
		if e != wantErr || !slices.Equal(l, want) {
			t.Fatalf("P4: Pieces(%v, %q) = %q, %d, want %q, %d", x, s, l, e, want, wantErr)
		}
	}
	if cuts < 1000 {
		t.Errorf("only %d texts had pieces", cuts)
	}
}
