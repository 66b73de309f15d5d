package rule

import "tailor/api"

// Write writes rules (P10).
func Write(l []api.Rule) (string, api.Errno) {
	if !areRules(l) {
		return "", api.ErrRule
	}
	var text []byte
	for i := 0; i < len(l); i++ {
		part := ruleText(l[i])
		if len(text)+len(part) > api.MaxRules {
			return "", api.ErrLong
		}
		text = append(text, part...)
	}
	return string(text), api.OK
}

func areRules(l []api.Rule) bool {
	if len(l) > 0 && l[0].Reset == "" {
		return false
	}
	for i := 0; i < len(l); i++ {
		if !isRule(l[i]) {
			return false
		}
	}
	return true
}

func isRule(r api.Rule) bool {
	if len(r.Text) == 0 || len(r.Text) > api.MaxPiece {
		return false
	}
	if len(r.More) > api.MaxPart || len(r.Reset) > api.MaxPart {
		return false
	}
	if r.Level < 0 || r.Level > levels || r.Before < 0 || r.Before > levels {
		return false
	}
	return r.Before == 0 || r.Reset != ""
}

// ruleText gives the text of a rule that is one.
func ruleText(r api.Rule) string {
	text := relationSign(r.Level)
	text += partText(r.Text)
	if r.Reset != "" {
		head := "&" + beforeSign(r.Before)
		head += partText(r.Reset)
		text = head + text
	}
	if r.More != "" {
		text += "/" + partText(r.More)
	}
	return text
}

func partText(s string) string {
	var text []byte
	for i := 0; i < len(s); i++ {
		if needsBackslash(s[i]) {
			text = append(text, '\\')
		}
		text = append(text, s[i])
	}
	return string(text)
}
