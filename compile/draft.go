package compile

import (
	"tailor/api"
	"tailor/table"
)

// draft is what becomes of a table while the rules are gone through. Its
// entries name members of the list by their numbers, and so do stem and
// anchor. The entries are at first those that were handed in: they are
// replaced, never written into.
type draft struct {
	list    []member
	entries []api.Entry
	stem    []int
	anchor  int
}

// apply changes the draft as a rule says (the steps of P11). Behind an error
// the draft is of no more use.
func (d *draft) apply(r api.Rule) api.Errno {
	more, ok := table.Numbers(d.entries, r.More)
	if !ok {
		return api.ErrReset
	}
	if r.Reset != "" && !d.reset(r.Reset) {
		return api.ErrReset
	}
	place, ok := d.placeFor(r)
	if !ok {
		return api.ErrBefore
	}
	if r.Level > 0 {
		// No member leaves the list, so none has the list's length as its number.
		d.anchor = len(d.list)
		d.list = withMember(d.list, place, member{number: d.anchor, strength: r.Level, isNew: true})
	}
	numbers := joined(d.stem, d.anchor, more)
	if len(numbers) > api.MaxSpread {
		return api.ErrSpread
	}
	d.entries = withEntry(d.entries, api.Entry{Text: r.Text, Nodes: numbers})
	if len(d.list) > api.MaxNodes || len(d.entries) > api.MaxEntries {
		return api.ErrRoom
	}
	return api.OK
}

// reset finds stem and anchor anew, or gives false if the text has no nodes.
func (d *draft) reset(text string) bool {
	numbers, ok := table.Numbers(d.entries, text)
	if !ok || len(numbers) == 0 {
		return false
	}
	last := len(numbers) - 1
	d.stem = numbers[:last]
	d.anchor = numbers[last]
	return true
}

// placeFor gives the place of a rule's new node, or false if a before-token
// stands against it.
func (d *draft) placeFor(r api.Rule) (int, bool) {
	if r.Before == 0 {
		return placeBehind(d.list, d.anchor, r.Level), true
	}
	if r.Level != r.Before {
		return 0, false
	}
	return placeBefore(d.list, d.anchor, r.Before)
}

// joined gives a new list: the stem is used again by the rules that follow.
func joined(stem []int, last int, more []int) []int {
	var numbers []int
	numbers = append(numbers, stem...)
	numbers = append(numbers, last)
	numbers = append(numbers, more...)
	return numbers
}

// withEntry gives entries, in the order of their texts, with one more or, if
// there is one of the same text, with it in the place of that.
func withEntry(entries []api.Entry, e api.Entry) []api.Entry {
	var l []api.Entry
	i := 0
	for i < len(entries) && entries[i].Text < e.Text {
		l = append(l, entries[i])
		i++
	}
	l = append(l, e)
	if i < len(entries) && entries[i].Text == e.Text {
		i++
	}
	for i < len(entries) {
		l = append(l, entries[i])
		i++
	}
	return l
}
