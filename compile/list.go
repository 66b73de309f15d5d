package compile

import (
	"tailor/api"
	"tailor/table"
)

// member is a node of the list. Its number is that of the table, or follows
// the numbers that there were when it was put in; it stays, while its place
// in the list changes with what is put in before it. The weights of a new one
// are found when the list is whole.
type member struct {
	number   int
	strength int
	isNew    bool
	node     api.Node
}

func membersOf(nodes []api.Node) []member {
	var list []member
	before := api.Node{}
	for i := 0; i < len(nodes); i++ {
		strength := table.Strength(nodes[i], before)
		list = append(list, member{number: i, strength: strength, node: nodes[i]})
		before = nodes[i]
	}
	return list
}

// placeOf gives the place in the list of the member with a number, or the
// place behind the last if there is none.
func placeOf(list []member, number int) int {
	place := 0
	for place < len(list) && list[place].number != number {
		place++
	}
	return place
}

// placeBehind gives the place of the first member behind the anchor with at
// most a strength, or the place behind the last.
func placeBehind(list []member, anchor int, strength int) int {
	place := placeOf(list, anchor) + 1
	for place < len(list) && list[place].strength > strength {
		place++
	}
	return place
}

// placeBefore gives the place of the nearest member, at or before the anchor,
// with at most a strength, or false if there is none or it has another one.
func placeBefore(list []member, anchor int, strength int) (int, bool) {
	place := placeOf(list, anchor)
	if place >= len(list) {
		return 0, false
	}
	for place >= 0 && list[place].strength > strength {
		place--
	}
	if place < 0 || list[place].strength != strength {
		return 0, false
	}
	return place, true
}

// withMember gives the list with one more at a place, which is one of the list
// or the one behind the last.
func withMember(list []member, place int, m member) []member {
	var longer []member
	for i := 0; i < len(list); i++ {
		if i == place {
			longer = append(longer, m)
		}
		longer = append(longer, list[i])
	}
	if place >= len(list) {
		longer = append(longer, m)
	}
	return longer
}

// weighed gives the nodes of the list with their weights (P12), or false if
// there is no room for one. The first has the node of weights 0 before it:
// above that every node is, and with the strength that it has as to nothing.
func weighed(list []member) ([]api.Node, bool) {
	var nodes []api.Node
	before := api.Node{}
	for i := 0; i < len(list); i++ {
		n := list[i].node
		if list[i].isNew {
			n = nodeBehind(before, list[i].strength)
		}
		if !fits(n, before, list[i].strength) {
			return nil, false
		}
		nodes = append(nodes, n)
		before = n
	}
	return nodes, true
}

// nodeBehind gives the weights of a new node.
func nodeBehind(before api.Node, strength int) api.Node {
	switch strength {
	case 1:
		return api.Node{P: before.P + 1, S: api.Common, T: api.Common}
	case 2:
		return api.Node{P: before.P, S: before.S + 1, T: api.Common}
	}
	return api.Node{P: before.P, S: before.S, T: before.T + 1}
}

// fits tells whether a node may stand behind another one with a strength.
// New nodes can only fail by a weight, nodes of the table only by the rest.
func fits(n api.Node, before api.Node, strength int) bool {
	if !table.IsNode(n) || !table.IsAbove(n, before) {
		return false
	}
	return table.Strength(n, before) == strength
}
