package tailor

import (
	"math"
	"math/rand"
	"slices"
	"strings"
	"testing"

	"tailor/api"
)

func TestCompareP5(t *testing.T) {
	for _, c := range []struct {
		a, b  string
		level int
		want  int
	}{
		{"a", "A", 1, 0}, {"a", "A", 2, 0}, {"a", "A", 3, -1}, {"A", "a", 3, 1}, {"A", "A", 3, 0},
		{"a'", "A", 1, 0}, {"a'", "A", 2, 1}, {"a'", "A", 3, 1}, {"A", "a'", 3, -1},
		{"'a", "a'", 1, 0}, {"'a", "a'", 2, 1}, {"'a", "a'", 3, 1}, {"a'", "'a", 3, -1},
		{"a", "b", 1, -1}, {"b", "a", 1, 1}, {"b", "a", 3, 1},
		{"", "", 1, 0}, {"", "", 3, 0}, {"", "a", 1, -1}, {"a", "", 1, 1}, {"", "'", 1, 0}, {"", "'", 2, -1}, {"'", "", 2, 1},
		{"a", "ab", 1, -1}, {"ab", "a", 1, 1}, {"ac", "b", 1, -1}, {"b", "ac", 1, 1}, {"a'", "ab", 3, -1},
		// An earlier level outweighs a later one, and an earlier place a later one.
		{"Aa", "ab", 3, -1}, {"Ab", "aa", 3, 1}, {"aA", "Aa", 3, -1}, {"ac", "ba", 1, -1}, {"a'A", "Aa", 3, 1},
	} {
		n, e := Compare(sample(), c.a, c.b, c.level)
		if n != c.want || e != api.OK {
			t.Errorf("P5: Compare(%q, %q, %d) = %d, %d, want %d, 0", c.a, c.b, c.level, n, e, c.want)
		}
	}
}

// TestCompareErrors: each error, and of several the one named first.
func TestCompareErrors(t *testing.T) {
	bad := tableOf([]api.Node{{}})
	full := strings.Repeat("a", api.MaxText)
	long := full + "a"
	for _, c := range []struct {
		t     api.Table
		a, b  string
		level int
		want  api.Errno
	}{
		{tableOf(manyNodes(api.MaxNodes + 1)), long, long, 0, api.ErrSize},
		{bad, long, "d", 0, api.ErrNode},
		{tableOf(nil, entry("a", 0)), "d", long, 9, api.ErrEntry},
		{sample(), long, "a", 3, api.ErrLong}, {sample(), "a", long, 3, api.ErrLong}, {sample(), long, long, 3, api.ErrLong},
		{sample(), long, "d", 0, api.ErrLong}, {sample(), "d", long, 4, api.ErrLong},
		{sample(), full, full, 3, api.OK},
		{sample(), "a", "a", 0, api.ErrLevel}, {sample(), "a", "a", 4, api.ErrLevel}, {sample(), "a", "a", -1, api.ErrLevel},
		{sample(), "a", "a", math.MinInt, api.ErrLevel}, {sample(), "a", "a", math.MaxInt, api.ErrLevel},
		{sample(), "d", "a", 0, api.ErrLevel}, {sample(), "a", "d", 4, api.ErrLevel},
		{sample(), "d", "a", 1, api.ErrText}, {sample(), "a", "d", 1, api.ErrText}, {sample(), "d", "d", 3, api.ErrText}, {sample(), "a", "bd", 1, api.ErrText},
		{api.Table{}, "a", "", 1, api.ErrText}, {api.Table{}, "", "", 3, api.OK},
	} {
		n, e := Compare(c.t, c.a, c.b, c.level)
		if n != 0 || e != c.want {
			t.Errorf("P1, P5: Compare(%v, %.30q, %.30q, %d) = %d, %d, want 0, %d", c.t, c.a, c.b, c.level, n, e, c.want)
		}
	}
}

func TestCompareOfRandomTables(t *testing.T) {
	r := rand.New(rand.NewSource(5))
	var seen [3]int
	for range 40000 {
		x := randomTable(r)
		a, b, level := randomText(r, r.Intn(5)), randomText(r, r.Intn(5)), 1+r.Intn(3)
		wa, okA := plainWeights(x, a)
		wb, okB := plainWeights(x, b)
		want, wantErr := 0, api.OK
		if !okA || !okB {
			wantErr = api.ErrText
		}
		for i := 0; i < level && want == 0 && wantErr == api.OK; i++ {
			want = slices.Compare(wa[i], wb[i])
		}
		n, e := Compare(x, a, b, level)
		if n != want || e != wantErr {
			t.Fatalf("P5: Compare(%v, %q, %q, %d) = %d, %d, want %d, %d", x, a, b, level, n, e, want, wantErr)
		}
		if e == api.OK {
			seen[n+1]++
		}
	}
	if slices.Min(seen[:]) < 500 {
		t.Errorf("too few answers of a kind: %v", seen)
	}
}
