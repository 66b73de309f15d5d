package tailor

import (
	"math"
	"math/rand"
	"strings"
	"testing"

	"tailor/api"
)

func TestKeyP6(t *testing.T) {
	for _, c := range []struct {
		t     api.Table
		s     string
		level int
		want  string
	}{
		{sample(), "a'b", 1, "\x08\x10"},
		{sample(), "a'b", 2, "\x08\x10\x00\x08\x10\x08"},
		{sample(), "a'b", 3, "\x08\x10\x00\x08\x10\x08\x00\x08\x08\x08"},
		{sample(), "cA", 3, "\x18\x08\x00\x08\x08\x00\x08\x10"},
		{sample(), "'", 1, ""}, {sample(), "'", 2, "\x00\x10"}, {sample(), "'", 3, "\x00\x10\x00\x08"},
		{sample(), "", 1, ""}, {sample(), "", 2, "\x00"}, {sample(), "", 3, "\x00\x00"},
		{api.Table{}, "", 3, "\x00\x00"},
		{overlapping(), "\x00", 3, "\x00\x00\x01"},
		{overlapping(), "abc", 3, "\x01\x01\x00\x03\x01\x03\x01\x00\x04\xfa\x04\x01"},
		{overlapping(), "abbca", 3, "\xfa\x01\x01\x00\x01\xfa\xfa\x00\x02\x01\x01\x01"},
	} {
		k, e := Key(c.t, c.s, c.level)
		if k != c.want || e != api.OK {
			t.Errorf("P6: Key(%q, %d) = %x, %d, want %x, 0", c.s, c.level, k, e, c.want)
		}
	}
}

func TestKeyOfTheLongestText(t *testing.T) {
	x := tableOf([]api.Node{node(250, 250, 250)}, entry("a", 0, 0, 0, 0))
	k, e := Key(x, strings.Repeat("a", api.MaxText), 3)
	level := strings.Repeat("\xfa", api.MaxText*api.MaxSpread)
	if e != api.OK || k != level+"\x00"+level+"\x00"+level {
		t.Errorf("P6: the longest key: %x, %d", k, e)
	}
}

// TestKeyErrors: each error, and of several the one named first.
func TestKeyErrors(t *testing.T) {
	long := strings.Repeat("d", api.MaxText+1)
	for _, c := range []struct {
		t     api.Table
		s     string
		level int
		want  api.Errno
	}{
		{tableOf(manyNodes(api.MaxNodes + 1)), long, 0, api.ErrSize},
		{tableOf([]api.Node{{}}), long, 0, api.ErrNode},
		{tableOf(nil, entry("a", 0)), long, 0, api.ErrEntry},
		{sample(), long, 0, api.ErrLong}, {sample(), long, 3, api.ErrLong}, {sample(), strings.Repeat("a", api.MaxText+1), 1, api.ErrLong},
		{sample(), "a", 0, api.ErrLevel}, {sample(), "a", 4, api.ErrLevel}, {sample(), "a", -1, api.ErrLevel},
		{sample(), "a", math.MinInt, api.ErrLevel}, {sample(), "a", math.MaxInt, api.ErrLevel}, {sample(), "d", 0, api.ErrLevel},
		{sample(), "d", 1, api.ErrText}, {sample(), "ad", 3, api.ErrText}, {api.Table{}, "a", 2, api.ErrText},
	} {
		k, e := Key(c.t, c.s, c.level)
		if k != "" || e != c.want {
			t.Errorf("P1, P6: Key(%v, %.30q, %d) = %x, %d, want none, %d", c.t, c.s, c.level, k, e, c.want)
		}
	}
}

// TestKeysAreInTheOrderOfCompare holds both calls against each other at all
// pairs of short texts.
func TestKeysAreInTheOrderOfCompare(t *testing.T) {
	for _, x := range []api.Table{sample(), overlapping()} {
		texts := []string{""}
		for i := 0; len(texts[i]) < 3; i++ {
			for _, e := range x.Entries {
				texts = append(texts, texts[i]+e.Text)
			}
		}
		for level := 1; level <= 3; level++ {
			for _, a := range texts {
				for _, b := range texts {
					checkKeyOrder(t, x, a, b, level)
				}
			}
		}
	}
}

func checkKeyOrder(t *testing.T, x api.Table, a, b string, level int) {
	t.Helper()
	ka, ea := Key(x, a, level)
	kb, eb := Key(x, b, level)
	n, e := Compare(x, a, b, level)
	if ea != api.OK || eb != api.OK || e != api.OK || n != strings.Compare(ka, kb) {
		t.Fatalf("P6: %q, %q on level %d: keys %x, %x, Compare %d (errors %d, %d, %d)", a, b, level, ka, kb, n, ea, eb, e)
	}
}

func TestKeyOfRandomTables(t *testing.T) {
	r := rand.New(rand.NewSource(6))
	for range 20000 {
		x := randomTable(r)
		s, level := randomText(r, r.Intn(6)), 1+r.Intn(3)
		want, wantErr := "", api.ErrText
		if l, ok := plainWeights(x, s); ok {
			wantErr = api.OK
			var parts []string
			for _, weights := range l[:level] {
				var b []byte
				for _, w := range weights {
					b = append(b, byte(w))
				}
				parts = append(parts, string(b))
			}
			want = strings.Join(parts, "\x00")
		}
		k, e := Key(x, s, level)
		if k != want || e != wantErr {
			t.Fatalf("P6: Key(%v, %q, %d) = %x, %d, want %x, %d", x, s, level, k, e, want, wantErr)
		}
	}
}
