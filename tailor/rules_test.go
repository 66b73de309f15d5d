package tailor

import (
	"math/rand"
	"regexp"
	"strings"
	"testing"

	"tailor/api"
)

func ruleOf(reset string, before, level int, text, more string) api.Rule {
	return api.Rule{Reset: reset, Before: before, Level: level, Text: text, More: more}
}

// sampleRules are the rules of the document's example, with spaces, and what
// they read as.
const sampleRules = "&a<x<<<X &[before 1]c < ch/c =q"

func sampleList() []api.Rule {
	return []api.Rule{ruleOf("a", 0, 1, "x", ""), ruleOf("", 0, 3, "X", ""), ruleOf("c", 1, 1, "ch", "c"), ruleOf("", 0, 0, "q", "")}
}

// Each kind of token is a group of its own, in the order of the letters of
// tokenLetters.
var tokens = regexp.MustCompile(`(?s)^(?:(&)|\[before ([123])\]|(<<<|<<|<|=)|(/)|((?:\\.|[^ &<=/\[\]\\])+))`)

const tokenLetters = "&b</p"

// The states of plainRead are named by what has been read last; each line says
// which letter leads where.
var steps = map[string]string{
	"begin &": "chain",
	"chain b": "before", "chain p": "reset", "before p": "reset",
	"reset <": "sign", "sign p": "text",
	"text <": "sign", "text &": "chain", "text /": "slash", "slash p": "more",
	"more <": "sign", "more &": "chain",
}

// plainRead goes from state to state by a table: another way than the
// program's, to hold it against.
func plainRead(s string) ([]api.Rule, api.Errno, int) {
	if len(s) > api.MaxRules {
		return nil, api.ErrLong, 0
	}
	var l []api.Rule
	var reset string
	var before int
	state, rest := "begin", s
	for {
		rest = strings.TrimLeft(rest, " ")
		at := len(s) - len(rest)
		m := tokens.FindStringSubmatch(rest)
		if rest == "" && (state == "begin" || state == "text" || state == "more") {
			return l, api.OK, 0
		}
		if m == nil {
			return nil, api.ErrRule, at
		}
		var letter, token string
		for i, group := range m[1:] {
			if group != "" {
				letter, token = tokenLetters[i:i+1], group
			}
		}
		state = steps[state+" "+letter]
		rest = rest[len(m[0]):]
		switch plain := plainPart(token); state {
		case "":
			return nil, api.ErrRule, at
		case "before":
			before = int(token[0] - '0')
		case "sign":
			l = append(l, ruleOf(reset, before, strings.Count(token, "<"), "", ""))
			reset, before = "", 0
		case "reset":
			if len(plain) > api.MaxPart {
				return nil, api.ErrPart, at
			}
			reset = plain
		case "text":
			if len(plain) > api.MaxPiece {
				return nil, api.ErrPart, at
			}
			l[len(l)-1].Text = plain
		case "more":
			if len(plain) > api.MaxPart {
				return nil, api.ErrPart, at
			}
			l[len(l)-1].More = plain
		}
	}
}

var characters = regexp.MustCompile(`(?s)\\(.)`)

func plainPart(token string) string { return characters.ReplaceAllString(token, "$1") }

// plainWrite writes rules that are such, of any length.
func plainWrite(l []api.Rule) string {
	var b strings.Builder
	for _, r := range l {
		if r.Reset != "" {
			b.WriteString("&" + []string{"", "[before 1]", "[before 2]", "[before 3]"}[r.Before] + plainSigns.Replace(r.Reset))
		}
		b.WriteString([]string{"=", "<", "<<", "<<<"}[r.Level] + plainSigns.Replace(r.Text))
		if r.More != "" {
			b.WriteString("/" + plainSigns.Replace(r.More))
		}
	}
	return b.String()
}

var plainSigns = strings.NewReplacer(" ", `\ `, "&", `\&`, "<", `\<`, "=", `\=`, "/", `\/`, "[", `\[`, "]", `\]`, `\`, `\\`)

// randomRules makes a list of rules that can be written, but for their length.
func randomRules(r *rand.Rand) []api.Rule {
	var l []api.Rule
	for i := range r.Intn(12) {
		x := ruleOf("", 0, r.Intn(4), randomBytes(r, 1+r.Intn(api.MaxPiece)), "")
		if i == 0 || r.Intn(3) == 0 {
			x.Reset = randomBytes(r, 1+r.Intn(api.MaxPart))
			x.Before = r.Intn(4)
		}
		if r.Intn(3) == 0 {
			x.More = randomBytes(r, 1+r.Intn(api.MaxPart))
		}
		l = append(l, x)
	}
	return l
}

// randomBytes makes a text of any bytes, with many of those that need a
// backslash, and many letters.
func randomBytes(r *rand.Rand, length int) string {
	b := make([]byte, length)
	for i := range b {
		switch r.Intn(3) {
		case 0:
			b[i] = ` &<=/[]\`[r.Intn(8)]
		case 1:
			b[i] = "abc"[r.Intn(3)]
		default:
			b[i] = byte(r.Intn(256))
		}
	}
	return string(b)
}

func TestHelpersReadAndWrite(t *testing.T) {
	l, e, at := plainRead(sampleRules)
	if plainWrite(l) != "&a<x<<<X&[before 1]c<ch/c=q" || e != api.OK || at != 0 {
		t.Fatalf("plainRead: %v, %d, %d", l, e, at)
	}
}
