// Package rule: rules as a text and as a list.
package rule

const levels = 3

// The kinds of tokens. Where no token stands, be it that the rules end there
// or that a byte begins none, noToken stands for it: whatever is asked for
// there, the fault and its place are the same.
const (
	noToken       = 0
	chainToken    = 1
	beforeToken   = 2
	relationToken = 3
	moreToken     = 4
	partToken     = 5
)

// token is what stands at a place of rules: its number if it is a before-token
// or a relation, what it stands for if it is a part, and the place behind it.
type token struct {
	kind   int
	number int
	text   string
	at     int
	behind int
}

// tokenAt gives the first token from a place of s on, spaces passed over.
func tokenAt(s string, from int) token {
	at := behindSpaces(s, from)
	if at >= len(s) {
		return token{kind: noToken, at: at}
	}
	switch s[at] {
	case '&':
		return token{kind: chainToken, at: at, behind: at + 1}
	case '/':
		return token{kind: moreToken, at: at, behind: at + 1}
	case '=':
		return token{kind: relationToken, at: at, behind: at + 1}
	case '<':
		return lessAt(s, at)
	case '[':
		return beforeAt(s, at)
	}
	return partAt(s, at)
}

func behindSpaces(s string, from int) int {
	at := from
	for at < len(s) && s[at] == ' ' {
		at++
	}
	return at
}

// lessAt gives the relation at a place where a < stands.
func lessAt(s string, at int) token {
	n := 1
	for n < levels && at+n < len(s) && s[at+n] == '<' {
		n++
	}
	return token{kind: relationToken, number: n, at: at, behind: at + n}
}

// beforeAt gives the before-token at a place, if one stands there.
func beforeAt(s string, at int) token {
	for n := 1; n <= levels; n++ {
		sign := beforeSign(n)
		end := at + len(sign)
		if end <= len(s) && s[at:end] == sign {
			return token{kind: beforeToken, number: n, at: at, behind: end}
		}
	}
	return token{kind: noToken, at: at}
}

// partAt gives the part at a place, if one stands there.
func partAt(s string, at int) token {
	var text []byte
	i := at
	for i < len(s) {
		if s[i] == '\\' && i+1 < len(s) {
			i++
		} else if needsBackslash(s[i]) {
			break
		}
		text = append(text, s[i])
		i++
	}
	if len(text) == 0 {
		return token{kind: noToken, at: at}
	}
	return token{kind: partToken, text: string(text), at: at, behind: i}
}

func needsBackslash(c byte) bool {
	switch c {
	case ' ', '&', '<', '=', '/', '[', ']', '\\':
		return true
	}
	return false
}

func beforeSign(before int) string {
	switch before {
	case 1:
		return "[before 1]"
	case 2:
		return "[before 2]"
	case 3:
		return "[before 3]"
	}
	return ""
}

func relationSign(level int) string {
	switch level {
	case 1:
		return "<"
	case 2:
		return "<<"
	case 3:
		return "<<<"
	}
	return "="
}
