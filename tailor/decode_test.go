package tailor

import (
	"math/rand"
	"strings"
	"testing"

	"tailor/api"
)

// fullTable has the most of everything that a table may have.
func fullTable() api.Table {
	x := tableOf(manyNodes(api.MaxNodes), manyEntries(api.MaxEntries)...)
	x.Nodes[api.MaxNodes-1] = node(api.MaxWeight, api.MaxWeight, api.MaxWeight)
	for i := range x.Entries {
		x.Entries[i].Nodes = []int{api.MaxNodes - 1, i, 0, i}
	}
	return x
}

// plainDecode takes the bytes off the front one by one: another way than the
// program's, to hold it against.
func plainDecode(s string) (api.Table, api.Errno) {
	rest, short := []byte(s), false
	take := func() int {
		if len(rest) == 0 {
			short = true
			return 0
		}
		c := rest[0]
		rest = rest[1:]
		return int(c)
	}
	var x api.Table
	for range take() {
		p, s, t := take(), take(), take()
		x.Nodes = append(x.Nodes, node(p, s, t))
	}
	for range take() {
		var e api.Entry
		for range take() {
			e.Text += string([]byte{byte(take())})
		}
		for range take() {
			e.Nodes = append(e.Nodes, take())
		}
		x.Entries = append(x.Entries, e)
	}
	if short || len(rest) > 0 {
		return api.Table{}, api.ErrCode
	}
	if e := Valid(x); e != api.OK {
		return api.Table{}, e
	}
	return x, api.OK
}

func checkDecode(t *testing.T, s string) {
	t.Helper()
	x, e := Decode(s)
	if want, wantE := plainDecode(s); !sameTable(x, want) || e != wantE {
		t.Errorf("P8: Decode(%.60x) = %.200v, %d, want %.200v, %d", s, x, e, want, wantE)
	}
}

func TestDecodeP8(t *testing.T) {
	for _, c := range []struct {
		s string
		x api.Table
	}{
		{sampleText, sample()},
		{"\x00\x00", api.Table{}},
		{"\x02\x01\x02\x03\x04\x05\x06\x00", tableOf([]api.Node{node(1, 2, 3), node(4, 5, 6)})},
		{"\x01\xfa\xfa\xfa\x01\x01a\x01\x00", tableOf([]api.Node{node(250, 250, 250)}, entry("a", 0))},
		{"\x02\x00\x00\x01\x00\x01\x01\x02\x03\x00\x80\xff\x04\x01\x00\x01\x01\x02\xc3\xa9\x01\x01", tableOf([]api.Node{node(0, 0, 1), node(0, 1, 1)}, entry("\x00\x80\xff", 1, 0, 1, 1), entry("é", 1))},
		{tableText(fullTable()), fullTable()},
	} {
		if x, e := Decode(c.s); !sameTable(x, c.x) || e != api.OK {
			t.Errorf("P8: Decode(%x) = %v, %d, want %v, 0", c.s, x, e, c.x)
		}
	}
}

// TestDecodeRefusesP8: first what is not of the form, then the error of Valid
// that is named first.
func TestDecodeRefusesP8(t *testing.T) {
	for _, c := range []struct {
		s string
		e api.Errno
	}{
		{"", api.ErrCode}, {"\x00", api.ErrCode}, {"\x01", api.ErrCode}, {"\xff", api.ErrCode}, {"\x00\x00\x00", api.ErrCode},
		{"\x01\x08\x08\x08", api.ErrCode}, {"\x00\x01", api.ErrCode}, {"\x00\x01\x01", api.ErrCode}, {"\x00\x01\x01a", api.ErrCode}, {"\x00\x01\x01a\x01", api.ErrCode}, {"\x00\x01\x00", api.ErrCode},
		{"\x00\x02\x01a\x01\x00", api.ErrCode}, {"\x00\x01\x01a\x01\x00\x01b\x01\x00", api.ErrCode},

		// Behind an invalid table too, the form is what counts first.
		{tableText(tableOf(manyNodes(49))) + "\x00", api.ErrCode}, {"\x01\x00\x00\x00", api.ErrCode}, {"\x01\x00\x00\x00\x00\x00", api.ErrCode}, {"\x00\x01\x00\x00\x00", api.ErrCode}, {"\x00\x01\x00\x01", api.ErrCode},

		{tableText(tableOf(manyNodes(48))), api.OK}, {tableText(tableOf(manyNodes(49))), api.ErrSize}, {tableText(tableOf(make([]api.Node, 255))), api.ErrSize},
		{tableText(tableOf(manyNodes(1), manyEntries(48)...)), api.OK}, {tableText(tableOf(manyNodes(1), manyEntries(49)...)), api.ErrSize}, {tableText(tableOf(nil, make([]api.Entry, 255)...)), api.ErrSize},
		{tableText(tableOf([]api.Node{{}}, manyEntries(49)...)), api.ErrSize}, {tableText(tableOf(make([]api.Node, 49), entry("", 9))), api.ErrSize},

		{"\x01\x00\x00\x00\x00", api.ErrNode}, {"\x01\x08\x00\x08\x00", api.ErrNode}, {"\x01\xfb\x08\x08\x00", api.ErrNode}, {"\x01\x08\xfb\x08\x00", api.ErrNode}, {"\x01\x08\x08\xff\x00", api.ErrNode},
		{"\x02\x08\x08\x08\x08\x08\x08\x00", api.ErrNode}, {"\x01\x00\x00\x00\x01\x00\x00", api.ErrNode},

		{"\x01\x08\x08\x08\x01\x00\x01\x00", api.ErrEntry}, {"\x01\x08\x08\x08\x01\x04abcd\x01\x00", api.ErrEntry}, {"\x01\x08\x08\x08\x01\xff" + strings.Repeat("a", 255) + "\x01\x00", api.ErrEntry},
		{"\x01\x08\x08\x08\x01\x01a\x00", api.ErrEntry}, {"\x01\x08\x08\x08\x01\x01a\x05\x00\x00\x00\x00\x00", api.ErrEntry}, {"\x01\x08\x08\x08\x01\x01a\xff" + strings.Repeat("\x00", 255), api.ErrEntry},
		{"\x01\x08\x08\x08\x01\x01a\x01\x01", api.ErrEntry}, {"\x01\x08\x08\x08\x01\x01a\x01\xff", api.ErrEntry}, {"\x00\x01\x01a\x01\x00", api.ErrEntry}, {"\x00\x01\x00\x00", api.ErrEntry},
		{"\x01\x08\x08\x08\x02\x01a\x01\x00\x01a\x01\x00", api.ErrEntry}, {"\x01\x08\x08\x08\x02\x01b\x01\x00\x01a\x01\x00", api.ErrEntry},
	} {
		x, e := Decode(c.s)
		if e != c.e || e != api.OK && (len(x.Nodes) > 0 || len(x.Entries) > 0) {
			t.Errorf("P8: Decode(%.60x) = %.200v, %d, want the error %d", c.s, x, e, c.e)
		}
		checkDecode(t, c.s)
	}
}

// TestDecodeNeedsAllAndNoMoreP8: a text that ends too early, anywhere, or goes
// on behind the last entry with any byte, is none.
func TestDecodeNeedsAllAndNoMoreP8(t *testing.T) {
	for _, s := range []string{sampleText, "\x00\x00", tableText(overlapping()), tableText(fullTable())} {
		for i := range s {
			if x, e := Decode(s[:i]); !sameTable(x, api.Table{}) || e != api.ErrCode {
				t.Errorf("P8: Decode(%x) = %v, %d, want ErrCode", s[:i], x, e)
			}
		}
		for c := range 256 {
			more := s + string([]byte{byte(c)})
			if x, e := Decode(more); !sameTable(x, api.Table{}) || e != api.ErrCode {
				t.Errorf("P8: Decode(%x) = %v, %d, want ErrCode", more, x, e)
			}
		}
		if x, e := Decode(s + s); !sameTable(x, api.Table{}) || e != api.ErrCode {
			t.Errorf("P8: Decode of a text twice = %v, %d, want ErrCode", x, e)
		}
	}
}

// TestDecodeChangedTextsP8: any byte in the place of any byte.
func TestDecodeChangedTextsP8(t *testing.T) {
	for _, s := range []string{sampleText, tableText(overlapping())} {
		for i := range s {
			for c := range 256 {
				checkDecode(t, s[:i]+string([]byte{byte(c)})+s[i+1:])
			}
		}
	}
}

// TestDecodeShortTextsP8: every text of a few bytes, of small numbers.
func TestDecodeShortTextsP8(t *testing.T) {
	texts := []string{""}
	for range 8 {
		var longer []string
		for _, s := range texts {
			checkDecode(t, s)
			for _, c := range []string{"\x00", "\x01", "\x02"} {
				longer = append(longer, s+c)
			}
		}
		texts = longer
	}
	for _, s := range texts {
		checkDecode(t, s)
	}
}

// TestDecodeTurnsEncodeP8: there and back, in both directions.
func TestDecodeTurnsEncodeP8(t *testing.T) {
	r := rand.New(rand.NewSource(8))
	for range 2000 {
		x := randomTable(r)
		s, _ := Encode(x)
		y, e := Decode(s)
		if !sameTable(x, y) || e != api.OK {
			t.Errorf("P8: Decode(Encode(%v)) = %v, %d", x, y, e)
		}
		if again, e := Encode(y); again != s || e != api.OK {
			t.Errorf("P8: Encode(Decode(%x)) = %x, %d", s, again, e)
		}
	}
}

// TestDecodeOfOddTextsP1: every text has an answer, long ones too, and with an
// error there is no table.
func TestDecodeOfOddTextsP1(t *testing.T) {
	l := append(oddTexts(), strings.Repeat("\x00", 1000000), strings.Repeat("\x01", 1000000), strings.Repeat("\xff", 1000000))
	for _, count := range []int{0, 1, 127, 128, 254, 255} {
		for _, length := range []int{0, 1, 254, 255} {
			e := entry(strings.Repeat("\xff", length), make([]int, length)...)
			x := tableOf(make([]api.Node, count))
			for range count {
				x.Entries = append(x.Entries, e)
			}
			s := tableText(x)
			l = append(l, s, s[:len(s)-1], s+"\x00")
		}
	}
	for _, s := range l {
		checkDecode(t, s)
	}
	r := rand.New(rand.NewSource(9))
	for range 20000 {
		b := make([]byte, r.Intn(30))
		for i := range b {
			b[i] = byte(r.Intn(1 << r.Intn(9)))
		}
		checkDecode(t, string(b))
	}
}
