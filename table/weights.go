package table

import "tailor/api"

const levels = 3

// Compare tells which of two texts is first (P5).
func Compare(t api.Table, a string, b string, level int) (int, api.Errno) {
	e := Valid(t)
	if e != api.OK {
		return 0, e
	}
	if len(a) > api.MaxText || len(b) > api.MaxText {
		return 0, api.ErrLong
	}
	if !isLevel(level) {
		return 0, api.ErrLevel
	}
	nodesA, okA := nodesOf(t, a)
	nodesB, okB := nodesOf(t, b)
	if !okA || !okB {
		return 0, api.ErrText
	}
	for k := 1; k <= level; k++ {
		weightsA := weights(nodesA, k)
		weightsB := weights(nodesB, k)
		order := compareWeights(weightsA, weightsB)
		if order != 0 {
			return order, api.OK
		}
	}
	return 0, api.OK
}

// Key gives the key of a text (P6).
func Key(t api.Table, s string, level int) (string, api.Errno) {
	e := Valid(t)
	if e != api.OK {
		return "", e
	}
	if len(s) > api.MaxText {
		return "", api.ErrLong
	}
	if !isLevel(level) {
		return "", api.ErrLevel
	}
	nodes, ok := nodesOf(t, s)
	if !ok {
		return "", api.ErrText
	}
	var key []byte
	for k := 1; k <= level; k++ {
		if k > 1 {
			key = append(key, 0)
		}
		list := weights(nodes, k)
		for i := 0; i < len(list); i++ {
			key = append(key, byte(list[i]))
		}
	}
	return string(key), api.OK
}

func isLevel(level int) bool {
	return level >= 1 && level <= levels
}

// weights gives the weights of nodes on a level, without those that are 0.
func weights(nodes []api.Node, level int) []int {
	var list []int
	for i := 0; i < len(nodes); i++ {
		w := weight(nodes[i], level)
		if w != 0 {
			list = append(list, w)
		}
	}
	return list
}

func weight(n api.Node, level int) int {
	switch level {
	case 1:
		return n.P
	case 2:
		return n.S
	}
	return n.T
}

// compareWeights: where only one list has a weight, the other one is first.
func compareWeights(a []int, b []int) int {
	for i := 0; i < len(a) && i < len(b); i++ {
		if a[i] < b[i] {
			return -1
		}
		if a[i] > b[i] {
			return 1
		}
	}
	if len(a) < len(b) {
		return -1
	}
	if len(a) > len(b) {
		return 1
	}
	return 0
}
