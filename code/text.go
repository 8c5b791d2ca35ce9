package code

import (
	"strings"

	"quadrille/api"
	"quadrille/whole"
)

// maxText is how long the text of code may be.
const maxText = 1 << 20

// What a line of text begins with; an instruction's name stands just behind the second one.
const (
	aheadOfConst = "const "
	aheadOfName  = "do."
)

// hex are the digits of a byte that is not written as itself.
const hex = "0123456789abcdef"

// Text writes code.
func Text(p api.Code) (string, api.Errno) {
	if e := May(p); e != api.OK {
		return "", e
	}
	var b strings.Builder
	for _, v := range p.Consts {
		b.WriteString(constLine(v))
		// It could become a hundred times as long, so it is not written to its end.
		if b.Len() > maxText {
			return "", api.ErrLong
		}
	}
	table := rows()
	for _, in := range p.Ins {
		b.WriteString(insLine(table[in.Op], in))
	}
	if b.Len() > maxText {
		return "", api.ErrLong
	}
	return b.String(), api.OK
}

// constLine writes the line of a constant that may be.
func constLine(v api.Value) string {
	kind, content := "i", whole.Text(v.Int)
	switch v.Kind {
	case api.VBool:
		kind = "b"
	case api.VErr:
		kind = "e"
	case api.VText:
		kind, content = "t", quoted(v.Text)
	}
	return aheadOfConst + kind + " " + content + "\n"
}

// insLine writes the line of an instruction that may be.
func insLine(r row, in api.Ins) string {
	line := []byte(aheadOfName + r.name)
	given := numbers(in)
	for _, part := range [][]int{given[:r.uses], in.T} {
		for _, n := range part {
			line = append(line, ' ')
			line = append(line, whole.Text(int64(n))...)
		}
	}
	return string(append(line, '\n'))
}

// quoted writes a text in its one form.
func quoted(s string) string {
	form := []byte{'"'}
	for i := range len(s) {
		c := s[i]
		switch {
		case c == '"' || c == '\\':
			form = append(form, '\\', c)
		case isPlain(c):
			form = append(form, c)
		default:
			form = append(form, '\\', 'x', hex[c>>4], hex[c&15])
		}
	}
	return string(append(form, '"'))
}

// isPlain tells whether a byte is written without its number.
func isPlain(c byte) bool { return 32 <= c && c <= 126 }
