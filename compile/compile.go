// Package compile: new tables by rules.
package compile

import (
	"tailor/api"
	"tailor/rule"
	"tailor/table"
)

// Compile makes a new table by rules (P11, P12).
func Compile(t api.Table, rules string) (api.Table, api.Errno, int) {
	e := table.Valid(t)
	if e != api.OK {
		return api.Table{}, e, 0
	}
	l, e, place := rule.Read(rules)
	if e != api.OK {
		return api.Table{}, e, place
	}
	d := draft{list: membersOf(t.Nodes), entries: t.Entries}
	for i := 0; i < len(l); i++ {
		e = d.apply(l[i])
		if e != api.OK {
			return api.Table{}, e, i
		}
	}
	nodes, ok := weighed(d.list)
	if !ok {
		return api.Table{}, api.ErrFull, 0
	}
	return api.Table{Nodes: nodes, Entries: placedEntries(d.list, d.entries)}, api.OK, 0
}

// placedEntries gives new entries, with the places of their nodes instead of
// the numbers of members.
func placedEntries(list []member, entries []api.Entry) []api.Entry {
	var placed []api.Entry
	for i := 0; i < len(entries); i++ {
		numbers := entries[i].Nodes
		var places []int
		for k := 0; k < len(numbers); k++ {
			place := placeOf(list, numbers[k])
			places = append(places, place)
		}
		placed = append(placed, api.Entry{Text: entries[i].Text, Nodes: places})
	}
	return placed
}
