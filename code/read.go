package code

import (
	"strings"

	"quadrille/api"
	"quadrille/whole"
)

// Read reads what Text writes.
func Read(s string) (api.Code, int, api.Errno) {
	if len(s) > maxText {
		return api.Code{}, 0, api.ErrLong
	}
	r := newReader()
	for at := 0; at < len(s); {
		line, _, ends := strings.Cut(s[at:], "\n")
		if !ends || !r.take(line) {
			return api.Code{}, at, api.ErrText
		}
		at += len(line) + 1
	}
	if e := May(r.code); e != api.OK {
		return api.Code{}, len(s), e
	}
	return r.code, 0, api.OK
}

// reader is what has been read so far, and what is needed to go on.
type reader struct {
	code  api.Code
	table map[int]row
	ops   map[string]int // by their names
}

func newReader() *reader {
	r := &reader{table: rows(), ops: map[string]int{}}
	for op, row := range r.table {
		r.ops[row.name] = op
	}
	return r
}

// take reads a line, without its newline; false: it is none that may stand here.
func (r *reader) take(line string) bool {
	if content, is := strings.CutPrefix(line, aheadOfConst); is {
		v, fits := readConst(content)
		if !fits || len(r.code.Ins) > 0 {
			return false
		}
		r.code.Consts = append(r.code.Consts, v)
		return true
	}
	in, fits := r.readIns(line)
	if fits {
		r.code.Ins = append(r.code.Ins, in)
	}
	return fits
}

// readConst reads a constant from its kind on; it need not be one that may be.
func readConst(s string) (api.Value, bool) {
	kind, content, _ := strings.Cut(s, " ")
	if kind == "t" {
		text, fits := unquoted(content)
		return api.Value{Kind: api.VText, Text: text}, fits
	}
	n, e := whole.Read(content)
	if e != api.OK {
		return api.Value{}, false
	}
	switch kind {
	case "i":
		return api.Value{Kind: api.VInt, Int: n}, true
	case "b":
		return api.Value{Kind: api.VBool, Int: n}, true
	case "e":
		return api.Value{Kind: api.VErr, Int: n}, true
	}
	return api.Value{}, false
}

// readIns reads an instruction; its numbers need not be such as may be.
func (r *reader) readIns(line string) (api.Ins, bool) {
	words := strings.Split(line, " ")
	name, is := strings.CutPrefix(words[0], aheadOfName)
	op, some := r.ops[name]
	given, fit := readNumbers(words[1:])
	uses := r.table[op].uses
	if !is || !some || !fit || len(given) < uses || len(given) > uses && !r.table[op].list {
		return api.Ins{}, false
	}
	var used [4]int
	copy(used[:], given[:uses])
	in := api.Ins{Op: op, A: used[0], B: used[1], C: used[2], D: used[3]}
	in.T = append(in.T, given[uses:]...)
	return in, true
}

// readNumbers reads words that are numbers, all of them.
func readNumbers(words []string) ([]int, bool) {
	out := make([]int, len(words))
	for i, word := range words {
		n, e := whole.Read(word)
		if e != api.OK {
			return nil, false
		}
		out[i] = int(n)
	}
	return out, true
}

// unquoted reads what quoted writes, of whatever length.
func unquoted(form string) (string, bool) {
	inner, begins := strings.CutPrefix(form, `"`)
	inner, ends := strings.CutSuffix(inner, `"`)
	if !begins || !ends {
		return "", false
	}
	text := make([]byte, 0, len(inner))
	for inner != "" {
		c, size := firstByte(inner)
		if size == 0 {
			return "", false
		}
		text, inner = append(text, c), inner[size:]
	}
	return string(text), true
}

// firstByte gives the byte that a quoted text begins with, and how many bytes it is written with; 0: it is not in its one form.
func firstByte(form string) (byte, int) {
	switch {
	case strings.HasPrefix(form, `\"`), strings.HasPrefix(form, `\\`):
		return form[1], 2
	case strings.HasPrefix(form, `\x`) && len(form) >= 4:
		high, low := strings.IndexByte(hex, form[2]), strings.IndexByte(hex, form[3])
		if c := byte(high<<4 | low); high >= 0 && low >= 0 && !isPlain(c) {
			return c, 4
		}
	case isPlain(form[0]) && form[0] != '"' && form[0] != '\\':
		return form[0], 1
	}
	return 0, 0
}
