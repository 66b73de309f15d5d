package tailor

import (
	"math/rand"
	"slices"
	"strings"
	"testing"

	"tailor/api"
)

// sampleText is the text of the table of the document's examples.
const sampleText = "\x05\x00\x10\x08\x08\x08\x08\x08\x08\x10\x10\x08\x08\x18\x08\x08" +
	"\x05\x01'\x01\x00\x01A\x01\x02\x01a\x01\x01\x01b\x01\x03\x01c\x01\x04"

// sameTable holds for tables that differ at most in that an empty list is nil.
func sameTable(a, b api.Table) bool {
	return slices.Equal(a.Nodes, b.Nodes) && slices.EqualFunc(a.Entries, b.Entries, func(x, y api.Entry) bool {
		return x.Text == y.Text && slices.Equal(x.Nodes, y.Nodes)
	})
}

// tableText gives the bytes of any table with at most 255 of each thing, valid
// or not: the lists are lists of numbers first, and bytes at the end.
func tableText(x api.Table) string {
	l := []int{len(x.Nodes)}
	for _, n := range x.Nodes {
		l = append(l, n.P, n.S, n.T)
	}
	l = append(l, len(x.Entries))
	for _, e := range x.Entries {
		l = append(l, len(e.Text))
		for _, c := range []byte(e.Text) {
			l = append(l, int(c))
		}
		l = append(append(l, len(e.Nodes)), e.Nodes...)
	}
	var b strings.Builder
	for _, n := range l {
		b.WriteByte(byte(n))
	}
	return b.String()
}

func TestEncodeP7(t *testing.T) {
	for _, c := range []struct {
		x api.Table
		s string
	}{
		{sample(), sampleText},
		{api.Table{}, "\x00\x00"},
		{tableOf([]api.Node{}, []api.Entry{}...), "\x00\x00"},
		{tableOf([]api.Node{node(1, 2, 3), node(4, 5, 6)}), "\x02\x01\x02\x03\x04\x05\x06\x00"},
		{tableOf([]api.Node{node(0, 0, 1), node(250, 250, 250)}, entry("a", 1, 0)), "\x02\x00\x00\x01\xfa\xfa\xfa\x01\x01a\x02\x01\x00"},
		{tableOf(manyNodes(1), entry("\x00", 0), entry("\x00\x00", 0, 0), entry("\x80\xc3\xff", 0, 0, 0, 0)), "\x01\x00\x00\x01\x03\x01\x00\x01\x00\x02\x00\x00\x02\x00\x00\x03\x80\xc3\xff\x04\x00\x00\x00\x00"},
		{tableOf(manyNodes(3), entry("é", 2, 1, 2)), "\x03\x00\x00\x01\x00\x00\x02\x00\x00\x03\x01\x02\xc3\xa9\x03\x02\x01\x02"},
	} {
		if s, e := Encode(c.x); s != c.s || e != api.OK {
			t.Errorf("P7: Encode(%v) = %x, %d, want %x, 0", c.x, s, e, c.s)
		}
	}
}

// TestEncodeAtTheBoundsP7: the greatest table has a text, one step more none.
func TestEncodeAtTheBoundsP7(t *testing.T) {
	full := fullTable()
	s, e := Encode(full)
	if s != tableText(full) || e != api.OK {
		t.Errorf("P7: Encode of the greatest table = %x, %d", s, e)
	}
	if want := 1 + 3*api.MaxNodes + 1 + api.MaxEntries*(1+api.MaxPiece+1+api.MaxSpread); len(s) != want {
		t.Errorf("P7: the text of the greatest table has %d bytes, want %d", len(s), want)
	}
	for _, c := range []struct {
		x api.Table
		e api.Errno
	}{
		{tableOf(manyNodes(api.MaxNodes + 1)), api.ErrSize},
		{tableOf(manyNodes(1), manyEntries(api.MaxEntries+1)...), api.ErrSize},
		{tableOf([]api.Node{node(251, 8, 8)}), api.ErrNode},
		{tableOf([]api.Node{node(8, 251, 8)}), api.ErrNode},
		{tableOf([]api.Node{node(8, 8, 251)}), api.ErrNode},
		{tableOf([]api.Node{node(256, 8, 8)}), api.ErrNode},
		{tableOf([]api.Node{node(8, 8, 0)}), api.ErrNode},
		{tableOf([]api.Node{node(8, 8, 8), node(8, 8, 8)}), api.ErrNode},
		{tableOf(manyNodes(1), entry("", 0)), api.ErrEntry},
		{tableOf(manyNodes(1), entry("abcd", 0)), api.ErrEntry},
		{tableOf(manyNodes(1), entry("a")), api.ErrEntry},
		{tableOf(manyNodes(1), entry("a", 0, 0, 0, 0, 0)), api.ErrEntry},
		{tableOf(manyNodes(1), entry("a", 1)), api.ErrEntry},
		{tableOf(manyNodes(1), entry("a", 256)), api.ErrEntry},
		{tableOf(manyNodes(1), entry("b", 0), entry("a", 0)), api.ErrEntry},
	} {
		if s, e := Encode(c.x); s != "" || e != c.e {
			t.Errorf("P7: Encode(%.200v) = %x, %d, want nothing, %d", c.x, s, e, c.e)
		}
	}
}

// TestEncodeIsTheTextP7: against the form, written another way.
func TestEncodeIsTheTextP7(t *testing.T) {
	r := rand.New(rand.NewSource(7))
	for range 2000 {
		x := randomTable(r)
		if s, e := Encode(x); s != tableText(x) || e != api.OK {
			t.Errorf("P7: Encode(%v) = %x, %d, want %x, 0", x, s, e, tableText(x))
		}
	}
}

// TestOddTablesHaveNoTextP1: the error is that of Valid, and then the text is
// empty.
func TestOddTablesHaveNoTextP1(t *testing.T) {
	for _, x := range oddTables() {
		want := Valid(x)
		if s, e := Encode(x); e != want || (e == api.OK) != (s != "") {
			t.Errorf("P1: Encode(%.200v) = %.40x, %d, want the error %d", x, s, e, want)
		}
	}
}
