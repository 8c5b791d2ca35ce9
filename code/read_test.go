package code

import (
	"strings"
	"testing"

	"quadrille/api"
)

// noLines are lines that are none, whatever stands around them.
func noLines() []string {
	return []string{
		"", " ", "\t", "\r", "do", "do.", "do.none", "do.Fetch 0 0", "DO.fetch 0 0", "Do.fetch 0 0", "fetch 0 0", "const", "const ", "const i", "const i ", "const  i 1", "const i  1", " const i 1", "const i 1 ", "const i 1 2", "const\ti 1", "const i\t1",
		"const I 1", "const x 1", "const 1", "const ii 1", "consti 1", "const i1", "const n 1", "const blank", "const - 1", "Const i 1", "const v 0",
		"const b", "const b TRUE", "const b ", "const e #REF!", "const e", "const e ",
		"do.const", "do.const ", "do.const  0", "do.const 0 ", " do.const 0", "do.const 0 0", "do.const\t0", "do.const 0\r", "do .const 0", "do. const 0", "do.const,0", "do.const x", "do.const 0x0", "do.const -", "do.const 0.0", "do.const 1e3", "do.const 1_0",
		"do.fetch", "do.fetch 0", "do.fetch 0 0 0", "do.fetch 0  0", "do.area 0 0 1", "do.area 0 0 1 1 1", "do.un", "do.un 1 1", "do.bin", "do.bin 1 1", "do.call 1", "do.call 1 1 1", "do.err 1", "do.err 1 0 0", "do.if 1", "do.if 1 2 3", "do.ok 1", "do.ok 1 0 0",
		"do.choose", "do.choose ", "do.choose  1", "do.choose 1 ", "do.choose 1 2 ", "do.choose 1  2", "do.choose 1 x", "do.match", "do.match 1 1", "do.drop 0", "do.drop ", "do.jump", "do.jump 1 2", "do.here", "do.here 47 0", "do.place", "do.place 47 0", "do.one 0", "do.one ", "do.indirect 0", "do.offset", "do.offset 2 0", "do.index", "do.index 1 0", "do.walk 54", "do.walk 54 1 0",
		"do.do.one", "do.one;", "do.onedo.one", "#", "// do.one", "\xff", "do.one\x00", "\ufeffdo.one", "é",
	}
}

// noNumbers are words that are no number of 64 bits in its one form.
func noNumbers() []string {
	return []string{"", "-", "+1", "-0", "00", "01", "-01", "007", "1.", "1.0", "0x1", "1e1", "１", "1 ", "--1", "1-", "9223372036854775808", "-9223372036854775809", "18446744073709551616", "99999999999999999999999999", "a", "1a", "1\r", "1\x00", "\"1\"", "1_000", "1,000", "TRUE"}
}

// noTexts are words that are no text in its one form.
func noTexts() []string {
	return []string{
		"", "\"", "a", "a\"", "\"a", "\"\"\"", "\"a\"b\"", "\"a\"\"b\"", "\"\\\"", "\"\\", "\"a\\\"", "\"\\a\"", "\"\\n\"", "\"\\x\"", "\"\\x0\"", "\"\\x0g\"", "\"\\xg0\"", "\"\\x0A\"", "\"\\x0a", "\"\\X0a\"", "\"\\xFF\"", "\"\\x 1\"", "\"\\x-1\"",
		"\"\\x41\"", "\"\\x20\"", "\"\\x7e\"", "\"\\x22\"", "\"\\x5c\"", "\"\t\"", "\"\x00\"", "\"\x1f\"", "\"\x7f\"", "\"\x80\"", "\"\xff\"", "\"é\"", "\"a\" ", " \"a\"", "\"a\" \"b\"", "'a'", "`a`", "\"\\'\"", "\"\\/\"", "\"\\u0041\"", "\"\\012\"", "\"\r\"", "\"\\\\\\\"",
	}
}

func TestLinesThatAreNone(t *testing.T) {
	lines := noLines()
	for _, n := range noNumbers() {
		for _, form := range []string{"const i #", "const b #", "const e #", "do.const #", "do.fetch # 0", "do.fetch 0 #", "do.area # 0 0 0", "do.area 0 # 0 0", "do.area 0 0 # 0", "do.area 0 0 0 #", "do.err # 0", "do.err 0 #", "do.choose #", "do.choose 1 #", "do.choose 1 # 2", "do.choose 1 2 #", "do.walk # 0", "do.walk 0 #"} {
			lines = append(lines, strings.Replace(form, "#", n, 1))
		}
	}
	for _, s := range noTexts() {
		lines = append(lines, "const t "+s)
	}
	good := "do.fetch 0 0\n"
	for _, line := range lines {
		unread(t, line+"\n", 0, api.ErrText)
		unread(t, line+"\n"+good, 0, api.ErrText)
		unread(t, good+line+"\n", len(good), api.ErrText)
		unread(t, good+line+"\n"+good, len(good), api.ErrText)
		unread(t, "const i 1\n"+line+"\n"+good, 10, api.ErrText)
		// The first one of them is told, whatever stands behind it, and ahead of what may not be.
		unread(t, good+line+"\n"+line+"\n", len(good), api.ErrText)
		unread(t, "do.drop\nconst b 7\n"+line+"\n", 8, api.ErrText)
		unread(t, "const b 7\ndo.drop\n"+line+"\n", 18, api.ErrText)
	}
}

// TestLinesOfOtherNumbers has lines of the form whose numbers may not be.
func TestLinesOfOtherNumbers(t *testing.T) {
	f := "do.fetch 0 0\n"
	for _, s := range []string{
		"const b 7\n" + f, "const b -1\n" + f, "const e 0\n" + f, "const e 7\n" + f, "const e -9223372036854775808\n" + f, "const b 9223372036854775807\n" + f, "const t \"" + strings.Repeat("x", 32768) + "\"\n" + f,
		"do.fetch 0 -1\n", "do.fetch 65536 0\n", "do.const 0\n", "do.const -1\n", f + "do.un 0\n", f + "do.un 9223372036854775807\n", f + "do.err -9223372036854775808 0\n", f + "do.err 2 9223372036854775807\n", f + "do.err 2 -1\n", f + "do.choose 1\n", "do.choose 1\n", "do.choose 0 0 0\n", "do.area -1 -2 -3 -4\n", f + "do.walk 54 9223372036854775807\n", f + "do.call 77 -1\n",
		"do.one\n", f + f, "do.drop\n", "do.jump 0\n", "do.here 0\n",
	} {
		unread(t, s, len(s), api.ErrCode)
	}
	for _, s := range []string{
		"", "const i 1\n", "const b 7\n", strings.Repeat("const i 1\n", 1025) + f, strings.Repeat("const b 7\n", 1025) + f, strings.Repeat("const i 1\n", 1025), strings.Repeat("do.one\n", 8193), f + strings.Repeat("do.un 1\n", 8192), "do.choose 1" + strings.Repeat(" 1", 8193) + "\n",
		strings.Repeat("do.choose 1"+strings.Repeat(" 1", 1000)+"\n", 9), strings.Repeat("do.one\n", 1<<20/7),
	} {
		unread(t, s, len(s), api.ErrLong)
	}
}

func TestConstantsBehindInstructions(t *testing.T) {
	f := "do.fetch 0 0\n"
	for _, line := range []string{"const i 1\n", "const b 1\n", "const b 7\n", "const e 3\n", "const t \"\"\n"} {
		unread(t, f+line, len(f), api.ErrText)
		unread(t, f+line+f, len(f), api.ErrText)
		unread(t, line+f+"do.un 1\n"+line, len(line)+len(f)+8, api.ErrText)
		unread(t, line+f+line+line, len(line)+len(f), api.ErrText)
		if _, at, e := Read(line + line + f); line != "const b 7\n" && (at != 0 || e != api.OK) {
			t.Errorf("P16.3: %q ahead: %d, %d", line, at, e)
		}
	}
}

// TestBytesBeyondTheEnd cuts texts at every byte, and has more behind them.
func TestBytesBeyondTheEnd(t *testing.T) {
	for _, c := range specimens() {
		s := written(c.p)
		for size := 1; size < len(s); size++ {
			if s[size-1] != '\n' {
				unread(t, s[:size], strings.LastIndexByte(s[:size], '\n')+1, api.ErrText)
			}
		}
		for _, more := range []string{" ", "x", "\n", "\r\n", "\x00", "do.one", "do.fetch 0 0", "const i 1", "const i 1\n", "\n\n", "do.one \n", "//\n", "\xff"} {
			unread(t, s+more, len(s), api.ErrText)
		}
		for _, ahead := range []string{" ", "x", "\n", "\r\n", "\x00", "\ufeff", "do.one", "const"} {
			unread(t, ahead+s, 0, api.ErrText)
		}
		unread(t, strings.ReplaceAll(s, "\n", "\r\n"), 0, api.ErrText)
		unread(t, strings.ReplaceAll(s, "\n", "\n\n"), strings.IndexByte(s, '\n')+1, api.ErrText)
		unread(t, strings.TrimSuffix(s, "\n"), strings.LastIndexByte(s[:len(s)-1], '\n')+1, api.ErrText)
	}
}

func TestLongTexts(t *testing.T) {
	within(t, "long texts", func() {
		for _, one := range []string{"x", " ", "\n", "do.one\n", "const i 1\n", "do.choose 1 1", "\"", "\\", "0", "do.", "const t \""} {
			s := strings.Repeat(one, 1<<21/len(one)+1)
			unread(t, s, 0, api.ErrLong)
			unread(t, s[:1<<20+1], 0, api.ErrLong)
		}
		for _, one := range []string{"x", " ", "\n", "\"", "\\", "0", "do."} {
			unread(t, strings.Repeat(one, 1<<20)[:1<<20], 0, api.ErrText)
		}
		f := "do.fetch 0 0\n"
		unread(t, f+strings.Repeat("x", 1<<20-len(f)), len(f), api.ErrText)
		unread(t, f+strings.Repeat(" ", 1<<20-len(f)-1)+"\n", len(f), api.ErrText)
		// One line of all the bytes, of many numbers, and of one text.
		s := "do.choose 1" + strings.Repeat(" 7", 1<<19-6) + "\n"
		unread(t, s, 1<<20, api.ErrLong)
		s = "const t \"" + strings.Repeat("x", 1<<20-11-len(f)) + "\"\n" + f
		unread(t, s, 1<<20, api.ErrCode)
		unread(t, s[:len(s)-1], 1<<20-len(f), api.ErrText)
		unread(t, s+"\n", 0, api.ErrLong)
		unread(t, "do.const "+strings.Repeat("9", 1<<19)+"\n", 0, api.ErrText)
	})
}
