package rule

import "tailor/api"

// Each function here that reads gives the place behind what it has read or,
// beside an error, the place of the fault.

// Read reads rules (P9).
func Read(rules string) ([]api.Rule, api.Errno, int) {
	if len(rules) > api.MaxRules {
		return nil, api.ErrLong, 0
	}
	var l []api.Rule
	at := behindSpaces(rules, 0)
	for at < len(rules) {
		chain, place, e := readChain(rules, at)
		if e != api.OK {
			return nil, e, place
		}
		l = append(l, chain...)
		at = behindSpaces(rules, place)
	}
	return l, api.OK, 0
}

func readChain(s string, from int) ([]api.Rule, int, api.Errno) {
	head, at, e := readHead(s, from)
	if e != api.OK {
		return nil, at, e
	}
	var chain []api.Rule
	for len(chain) == 0 || relationFollows(s, at) {
		r, place, fault := readRelation(s, at)
		if fault != api.OK {
			return nil, place, fault
		}
		if len(chain) == 0 {
			r.Reset = head.Reset
			r.Before = head.Before
		}
		chain = append(chain, r)
		at = place
	}
	return chain, at, api.OK
}

// readHead reads what stands in a chain before its relations, as a rule with
// Reset and Before alone.
func readHead(s string, from int) (api.Rule, int, api.Errno) {
	sign := tokenAt(s, from)
	if sign.kind != chainToken {
		return api.Rule{}, sign.at, api.ErrRule
	}
	at := sign.behind
	before := 0
	next := tokenAt(s, at)
	if next.kind == beforeToken {
		at = next.behind
		before = next.number
	}
	reset, at, e := readPart(s, at, api.MaxPart)
	if e != api.OK {
		return api.Rule{}, at, e
	}
	return api.Rule{Reset: reset, Before: before}, at, api.OK
}

func relationFollows(s string, from int) bool {
	next := tokenAt(s, from)
	return next.kind == relationToken
}

func readRelation(s string, from int) (api.Rule, int, api.Errno) {
	sign := tokenAt(s, from)
	if sign.kind != relationToken {
		return api.Rule{}, sign.at, api.ErrRule
	}
	text, at, e := readPart(s, sign.behind, api.MaxPiece)
	if e != api.OK {
		return api.Rule{}, at, e
	}
	next := tokenAt(s, at)
	if next.kind != moreToken {
		return api.Rule{Level: sign.number, Text: text}, at, api.OK
	}
	more, at, e := readPart(s, next.behind, api.MaxPart)
	if e != api.OK {
		return api.Rule{}, at, e
	}
	return api.Rule{Level: sign.number, Text: text, More: more}, at, api.OK
}

// readPart reads a part that stands for at most so many bytes.
func readPart(s string, from int, most int) (string, int, api.Errno) {
	part := tokenAt(s, from)
	if part.kind != partToken {
		return "", part.at, api.ErrRule
	}
	if len(part.text) > most {
		return "", part.at, api.ErrPart
	}
	return part.text, part.behind, api.OK
}
