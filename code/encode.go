// Package code: tables as bytes.
package code

import (
	"tailor/api"
	"tailor/table"
)

// Encode gives the text of a table (P7).
func Encode(t api.Table) (string, api.Errno) {
	e := table.Valid(t)
	if e != api.OK {
		return "", e
	}
	var text []byte
	text = append(text, byte(len(t.Nodes)))
	for i := 0; i < len(t.Nodes); i++ {
		n := t.Nodes[i]
		text = append(text, byte(n.P), byte(n.S), byte(n.T))
	}
	text = append(text, byte(len(t.Entries)))
	for i := 0; i < len(t.Entries); i++ {
		part := entryText(t.Entries[i])
		text = append(text, part...)
	}
	return string(text), api.OK
}

// entryText gives the bytes of an entry of a valid table.
func entryText(e api.Entry) string {
	var text []byte
	text = append(text, byte(len(e.Text)))
	text = append(text, e.Text...)
	text = append(text, byte(len(e.Nodes)))
	for i := 0; i < len(e.Nodes); i++ {
		text = append(text, byte(e.Nodes[i]))
	}
	return string(text)
}
