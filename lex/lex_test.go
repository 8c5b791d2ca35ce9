package lex

import (
	"fmt"
	"math/big"
	"regexp"
	"slices"
	"strings"
	"sync"
	"testing"
	"time"

	"quadrille/api"
)

// within fails the test if the work goes on for far longer than it can.
func within(t *testing.T, what string, work func()) {
	t.Helper()
	done := make(chan struct{})
	go func() {
		defer close(done)
		work()
	}()
	select {
	case <-done:
	case <-time.After(20 * time.Second):
		t.Fatalf("P0.1: %s is not done", what)
	}
}

// brief writes a text without the most of a long one.
func brief(s string) string {
	if len(s) <= 60 {
		return fmt.Sprintf("%q", s)
	}
	return fmt.Sprintf("%q.. of %d bytes", s[:60], len(s))
}

// briefWords writes the first few of a list of words.
func briefWords(words []api.Word) string {
	b := strings.Builder{}
	for _, w := range words[:min(len(words), 12)] {
		fmt.Fprintf(&b, "{%d %s %d} ", w.Kind, brief(w.Text), w.At)
	}
	return fmt.Sprintf("%d words %s", len(words), b.String())
}

func w(kind int, text string, at int) api.Word { return api.Word{Kind: kind, Text: text, At: at} }

// checkWords holds Cut against the words that are wanted of a text.
func checkWords(t *testing.T, s string, want ...api.Word) {
	t.Helper()
	words, at, e := Cut(s)
	if e != api.OK || at != 0 || !slices.Equal(words, want) {
		t.Errorf("P8.1: Cut(%s) gives %s, %d, %d, not %s, 0, OK", brief(s), briefWords(words), at, e, briefWords(want))
	}
}

// checkFault holds Cut against the fault that is wanted of a text.
func checkFault(t *testing.T, s string, at int, e api.Errno) {
	t.Helper()
	words, gotAt, gotE := Cut(s)
	if gotE != e || gotAt != at || len(words) != 0 {
		t.Errorf("P8.1: Cut(%s) gives %s, %d, %d, not no words, %d, %d", brief(s), briefWords(words), gotAt, gotE, at, e)
	}
}

func TestDocumentExamples(t *testing.T) {
	checkWords(t, `Sum(a1:$B2)+007`, w(4, "SUM", 0), w(7, "(", 3), w(3, "a1", 4), w(7, ":", 6), w(3, "$B2", 7), w(7, ")", 10), w(7, "+", 11), w(1, "7", 12))
	checkFault(t, `"say ""hi"""&"`, 13, api.ErrToken)
	checkWords(t, `"say ""hi"""&""`, w(2, `say "hi"`, 0), w(7, "&", 12), w(2, "", 13))
	checkWords(t, `True(1)`, w(4, "TRUE", 0), w(7, "(", 4), w(1, "1", 5), w(7, ")", 6))
	checkWords(t, `true <>#N/A`, w(5, "TRUE", 0), w(7, "<>", 5), w(6, "#N/A", 7))
	checkWords(t, `AAA70000`, w(3, "AAA70000", 0))
	for s, at := range map[string]int{`SUM (1)`: 0, `1A`: 0, `A0`: 0, `_`: 0, `#CYCLE!`: 0, `2.5`: 1, `'`: 0} {
		checkFault(t, s, at, api.ErrToken)
	}
	checkFault(t, `9223372036854775808`, 0, api.ErrNumber)
	checkWords(t, "")
	checkWords(t, " ")
	checkWords(t, "\t \u00a0\n\u3000\r ")
}

// blanks are the six, each with its bytes.
func blanks() []string { return []string{"\t", "\n", "\r", " ", "\xc2\xa0", "\xe3\x80\x80"} }

func TestBlanks(t *testing.T) {
	for _, b := range blanks() {
		n := len(b)
		checkWords(t, b)
		checkWords(t, b+b)
		checkWords(t, b+"1", w(1, "1", n))
		checkWords(t, "1"+b, w(1, "1", 0))
		checkWords(t, "1"+b+"2", w(1, "1", 0), w(1, "2", 1+n))
		checkWords(t, b+b+"A1"+b+b+"B2"+b, w(3, "A1", 2*n), w(3, "B2", 2+4*n))
		checkWords(t, "<"+b+">", w(7, "<", 0), w(7, ">", 1+n))
		checkWords(t, "<"+b+"=", w(7, "<", 0), w(7, "=", 1+n))
		checkWords(t, ">"+b+"=", w(7, ">", 0), w(7, "=", 1+n))
		checkWords(t, "TRUE"+b+"(", w(5, "TRUE", 0), w(7, "(", 4+n))
		checkWords(t, `"`+b+`"`, w(2, b, 0))
		checkWords(t, `"a"`+b+`"b"`, w(2, "a", 0), w(2, "b", 3+n))
		checkFault(t, "SUM"+b+"(", 0, api.ErrToken)
		checkFault(t, b+"'", n, api.ErrToken)
		checkFault(t, "#N"+b+"/A", 0, api.ErrToken)
	}
	checkWords(t, strings.Join(blanks(), ""))
	for _, s := range blanks() {
		for _, z := range blanks() {
			checkWords(t, s+"7"+z, w(1, "7", len(s)))
		}
	}
}

func TestRunesWithWhichNoWordBegins(t *testing.T) {
	for _, s := range []string{
		"'", ".", ";", "!", "?", "@", "[", "]", "{", "}", "\\", "|", "~", "`", "\x00", "\x01", "\x08", "\x0b", "\x0c", "\x0e", "\x1f", "\x7f",
		"é", "ß", "²", "×", "\u00ad", "\u0085", "\u0660", "\u1680", "\u2000", "\u2003", "\u200b", "\u2028", "\u202f", "\u205f", "\ufeff", "\ufffd", "\uff08", "\uff11", "\uff21", "\u212a", "\u017f", "\U0001f600", "\U0010ffff",
		"\x80", "\xa0", "\xbf", "\xc2", "\xc0\xa0", "\xe3\x80", "\xe3", "\xed\xa0\x80", "\xf4\x90\x80\x80", "\xfe", "\xff",
	} {
		checkFault(t, s, 0, api.ErrToken)
		checkFault(t, s+s, 0, api.ErrToken)
		checkFault(t, " "+s, 1, api.ErrToken)
		checkFault(t, "1"+s, 1, api.ErrToken)
		checkFault(t, "1+"+s+"2", 2, api.ErrToken)
		checkFault(t, "A1"+s, 2, api.ErrToken)
		checkFault(t, "TRUE"+s, 4, api.ErrToken)
		checkFault(t, "\u3000"+s+"(", 3, api.ErrToken)
		checkFault(t, `"é"`+s, 4, api.ErrToken)
		checkFault(t, "#N/A"+s, 4, api.ErrToken)
		checkFault(t, "<"+s, 1, api.ErrToken)
		checkFault(t, "SUM"+s+"(", 0, api.ErrToken)
		checkWords(t, `"`+s+`"`, w(2, s, 0))
	}
}

// signs are all the words of the kind 7.
func signs() []string {
	return []string{"(", ")", ",", ":", "^", "*", "/", "+", "-", "&", "=", "<", ">", "%", "<>", "<=", ">="}
}

// TestEachByte asks of each byte alone whether it is a word, a blank or nothing.
func TestEachByte(t *testing.T) {
	for c := range 256 {
		s := string([]byte{byte(c)})
		switch {
		case c >= '0' && c <= '9':
			checkWords(t, s, w(1, s, 0))
		case slices.Contains(signs(), s):
			checkWords(t, s, w(7, s, 0))
		case slices.Contains(blanks(), s):
			checkWords(t, s)
		default:
			checkFault(t, s, 0, api.ErrToken)
		}
	}
}

// TestEachRune asks of each rune of several bytes; but for two blanks there is none with which a word begins.
func TestEachRune(t *testing.T) {
	for r := rune(128); r <= 0x10ffff; r++ {
		s := string(r)
		if r >= 0xd800 && r <= 0xdfff {
			continue
		}
		words, at, e := Cut(s)
		want := api.ErrToken
		if r == 0xa0 || r == 0x3000 {
			want = api.OK
		}
		if len(words) != 0 || at != 0 || e != want {
			t.Fatalf("P8.1: Cut(%+q) gives %s, %d, %d, not no words, 0, %d", s, briefWords(words), at, e, want)
		}
	}
}

func TestNumbers(t *testing.T) {
	zeros := strings.Repeat("0", 1000)
	for s, want := range map[string]string{
		"0": "0", "00": "0", zeros: "0", "1": "1", "01": "1", "10": "10", "0010": "10", "1000": "1000", "123456789": "123456789", "9876543210": "9876543210",
		"999999999999999999": "999999999999999999", "1000000000000000000": "1000000000000000000",
		"9223372036854775806": "9223372036854775806", "9223372036854775807": "9223372036854775807", "09223372036854775807": "9223372036854775807", zeros + "9223372036854775807": "9223372036854775807",
		zeros + "5": "5", zeros + "10": "10",
	} {
		checkWords(t, s, w(1, want, 0))
		checkWords(t, "-"+s+"%", w(7, "-", 0), w(1, want, 1), w(7, "%", 1+len(s)))
		checkWords(t, s+"("+s, w(1, want, 0), w(7, "(", len(s)), w(1, want, 1+len(s)))
		checkWords(t, " "+s+" "+s, w(1, want, 1), w(1, want, 2+len(s)))
	}
	for _, s := range []string{
		"9223372036854775808", "9223372036854775809", "9223372036854775810", "9223372036854775817", "9300000000000000000", "9999999999999999999", "10000000000000000000", "18446744073709551615", "18446744073709551616", "18446744073709551617", "36893488147419103232", "340282366920938463463374607431768211456",
		"09223372036854775808", zeros + "9223372036854775808", strings.Repeat("9", 65000), "1" + zeros, "4" + strings.Repeat("0", 64000),
	} {
		checkFault(t, s, 0, api.ErrNumber)
		checkFault(t, "-"+s, 1, api.ErrNumber)
		checkFault(t, "\u00a0"+s+"(", 2, api.ErrNumber)
		checkFault(t, "1+"+s+"'", 2, api.ErrNumber)
	}
}

func TestRunsThatBeginWithADigit(t *testing.T) {
	for _, s := range []string{"1A", "1a", "1$", "1_", "0x10", "1e3", "12A1", "0A", "1A1", "1TRUE", "1$A$1", "7_", "007$", "1_000", "99999999999999999999A", strings.Repeat("1", 60000) + "Z", "9223372036854775808_"} {
		checkFault(t, s, 0, api.ErrToken)
		checkFault(t, s+"(1)", 0, api.ErrToken)
		checkFault(t, "A1+"+s, 3, api.ErrToken)
		checkFault(t, " "+s+" ", 1, api.ErrToken)
	}
	checkFault(t, "1.5", 1, api.ErrToken)
	checkFault(t, "1é", 1, api.ErrToken)
	checkFault(t, "1\xff", 1, api.ErrToken)
	checkWords(t, "1+2-3*4", w(1, "1", 0), w(7, "+", 1), w(1, "2", 2), w(7, "-", 3), w(1, "3", 4), w(7, "*", 5), w(1, "4", 6))
}

// cases gives a word with each of its letters once in capitals and once small.
func cases(word string) []string {
	all := []string{""}
	for _, r := range word {
		var longer []string
		for _, s := range all {
			longer = append(longer, s+strings.ToUpper(string(r)), s+strings.ToLower(string(r)))
		}
		all = longer
	}
	return all
}

func TestTruths(t *testing.T) {
	for _, capitals := range []string{"TRUE", "FALSE"} {
		n := len(capitals)
		for _, s := range cases(capitals) {
			checkWords(t, s, w(5, capitals, 0))
			checkWords(t, s+"(", w(4, capitals, 0), w(7, "(", n))
			checkWords(t, s+"()", w(4, capitals, 0), w(7, "(", n), w(7, ")", n+1))
			checkWords(t, s+" (", w(5, capitals, 0), w(7, "(", n+1))
			checkWords(t, s+")", w(5, capitals, 0), w(7, ")", n))
			checkWords(t, "("+s+")", w(7, "(", 0), w(5, capitals, 1), w(7, ")", 1+n))
			checkWords(t, s+","+s, w(5, capitals, 0), w(7, ",", n), w(5, capitals, n+1))
			checkWords(t, s+`"("`, w(5, capitals, 0), w(2, "(", n))
			checkWords(t, s+"1", w(3, s+"1", 0))
			checkWords(t, s+"$1", w(3, s+"$1", 0))
			checkWords(t, "$"+s+"1", w(3, "$"+s+"1", 0))
			checkWords(t, s+"S(", w(4, capitals+"S", 0), w(7, "(", n+1))
			checkWords(t, s+"1(", w(4, capitals+"1", 0), w(7, "(", n+1))
			for _, wrong := range []string{s + "s", s + "S", s + s, s + "0", s + "_", "_" + s, s + "$", "$" + s, "x" + s, s[:n-1], s[1:], s + "_(", "$" + s + "("} {
				checkFault(t, wrong, 0, api.ErrToken)
			}
		}
	}
	for _, s := range []string{"FAL\u017fE", "\u017f", "TRU\u00c9"} {
		checkFault(t, s, 0, api.ErrToken)
	}
}

func TestNames(t *testing.T) {
	for s, want := range map[string]string{
		"SUM": "SUM", "sum": "SUM", "Sum": "SUM", "sUm": "SUM", "x": "X", "Z": "Z", "a": "A", "z": "Z", "NOPE": "NOPE", "a1": "A1", "A1": "A1", "AAA70000": "AAA70000", "A0": "A0", "A01": "A01", "a1b2": "A1B2", "LOG10": "LOG10", "Q0Z": "Q0Z",
		strings.Repeat("aZ9", 10000): strings.Repeat("AZ9", 10000),
	} {
		n := len(s)
		checkWords(t, s+"(", w(4, want, 0), w(7, "(", n))
		checkWords(t, s+"(1)", w(4, want, 0), w(7, "(", n), w(1, "1", n+1), w(7, ")", n+2))
		checkWords(t, "-"+s+"((", w(7, "-", 0), w(4, want, 1), w(7, "(", n+1), w(7, "(", n+2))
		checkWords(t, `""`+s+`("`+s+`"`, w(2, "", 0), w(4, want, 2), w(7, "(", n+2), w(2, s, n+3))
	}
	checkWords(t, "sum(if(a(", w(4, "SUM", 0), w(7, "(", 3), w(4, "IF", 4), w(7, "(", 6), w(4, "A", 7), w(7, "(", 8))
	for _, s := range []string{"SUM", "sum", "x", "A0", "A01", "A1B2", "Q0Z", "TRUES", "_A", "A_1", "A_", "$", "$$", "$A", "_1", "__", "A$", "$_", "A1_"} {
		checkFault(t, s, 0, api.ErrToken)
		checkFault(t, s+" (1)", 0, api.ErrToken)
		checkFault(t, s+"\u3000(", 0, api.ErrToken)
		checkFault(t, s+")(", 0, api.ErrToken)
		checkFault(t, "1+"+s+"+'", 2, api.ErrToken)
	}
	for _, s := range []string{"_", "_A", "A_1", "A_", "$", "$A", "A$", "_1", "$SUM", "SUM_", "SUM$", "SU$M", "S_M", "$A0", "A1$", "A$0"} {
		checkFault(t, s+"(", 0, api.ErrToken)
		checkFault(t, "(("+s+"()", 2, api.ErrToken)
	}
}

func TestReferences(t *testing.T) {
	for _, s := range []string{
		"A1", "a1", "Z9", "z9", "AA10", "aB12", "ZZ65536", "zz65536", "A65536", "$A1", "A$1", "$A$1", "$zz$65536", "b$7", "$b7",
		"AAA1", "aaa1", "ZZ65537", "A65537", "$AAA$70000", "AAA70000", "A99999999999999999999", "a$99999999999999999999", "ABCDEFGHIJKLMNOPQRSTUVWXYZ1", "TRUE1", "false$10", "SUM1", "$sum1", "A10", "A100000",
		strings.Repeat("Zz", 20000) + "$" + strings.Repeat("90", 10000),
	} {
		n := len(s)
		checkWords(t, s, w(3, s, 0))
		checkWords(t, " "+s+" ", w(3, s, 1))
		checkWords(t, "-"+s+"%", w(7, "-", 0), w(3, s, 1), w(7, "%", 1+n))
		checkWords(t, s+":B2", w(3, s, 0), w(7, ":", n), w(3, "B2", n+1))
		checkWords(t, s+" (", w(3, s, 0), w(7, "(", n+1))
		checkWords(t, s+`"x"`, w(3, s, 0), w(2, "x", n))
		if strings.Contains(s, "$") {
			checkWords(t, s+"(", w(3, s, 0), w(7, "(", n))
		} else {
			checkWords(t, s+"(", w(4, strings.ToUpper(s), 0), w(7, "(", n))
		}
	}
	for _, s := range []string{
		"A0", "A01", "a00", "$A0", "A$0", "A$01", "$A$0", "$1", "$$1", "$", "$$", "A", "$A", "A$", "$A$", "$$A1", "A$$1", "A1$", "A1$1", "A1A", "A1B2", "A1$B$2", "$A$1$", "A_1", "_A1", "A1_", "ZZZ070000", strings.Repeat("A", 60000), "A0" + strings.Repeat("1", 60000),
	} {
		checkFault(t, s, 0, api.ErrToken)
		checkFault(t, s+"+1", 0, api.ErrToken)
		checkFault(t, "A1:"+s, 3, api.ErrToken)
		checkFault(t, "\u00a0"+s+" ", 2, api.ErrToken)
	}
	checkFault(t, "A1:A.", 3, api.ErrToken)
	checkFault(t, "A1.5", 2, api.ErrToken)
}

// quoted writes a text as a formula does.
func quoted(s string) string {
	b := []byte{'"'}
	for i := range len(s) {
		if s[i] == '"' {
			b = append(b, '"')
		}
		b = append(b, s[i])
	}
	return string(append(b, '"'))
}

func TestTexts(t *testing.T) {
	for _, s := range []string{
		"", `"`, `""`, `"""`, `""""`, "a", " ", "  a  ", `a"b`, `"a"`, `""a""`, `a""`, `"" ""`, `say "hi"`, "é", "日本", "\U0001f600", "\x00", "\xff", "\xff\xfe", "\xc3", "\xe3\x80", "\x80\"\x80", "\xc3\"", "\ufffd", "\n", "\r\n", "\t", "\u00a0", "\u3000", "'", "=1+2", "#N/A", "#CYCLE!", "TRUE", "true", "007", "A1", "a1:b2", "SUM(", "<>", ".;!?@[]{}\\|~`", strings.Repeat("x", 32767), strings.Repeat("x", 32768), strings.Repeat(`"`, 30000), strings.Repeat("\xff", 65000), allBytes(),
	} {
		q := quoted(s)
		checkWords(t, q, w(2, s, 0))
		checkWords(t, " "+q+"\u3000", w(2, s, 1))
		checkWords(t, "-"+q+"&A1", w(7, "-", 0), w(2, s, 1), w(7, "&", 1+len(q)), w(3, "A1", 2+len(q)))
		checkWords(t, "1"+q+"(", w(1, "1", 0), w(2, s, 1), w(7, "(", 1+len(q)))
		checkWords(t, q+` "" `, w(2, s, 0), w(2, "", 1+len(q)))
		checkFault(t, q[:len(q)-1], 0, api.ErrToken)
		checkFault(t, "1+"+q[:len(q)-1], 2, api.ErrToken)
		checkFault(t, q+`"`, 0, api.ErrToken)
		checkFault(t, `""&`+q[:len(q)-1], 3, api.ErrToken)
		checkFault(t, q+"'", len(q), api.ErrToken)
	}
}

func allBytes() string {
	var b []byte
	for c := range 256 {
		b = append(b, byte(c))
	}
	return string(b)
}

// TestQuotesInRows cuts rows of quotes alone: a row of an even number is one text, the end of the others is missing.
func TestQuotesInRows(t *testing.T) {
	for n := 1; n <= 200; n++ {
		row := strings.Repeat(`"`, n)
		if n%2 == 1 {
			checkFault(t, row, 0, api.ErrToken)
			checkFault(t, "1 "+row+" ", 2, api.ErrToken)
			checkFault(t, `"a" `+row+"b", 4, api.ErrToken)
			continue
		}
		checkWords(t, row, w(2, strings.Repeat(`"`, n/2-1), 0))
		checkWords(t, "a1 "+row+"B2", w(3, "a1", 0), w(2, strings.Repeat(`"`, n/2-1), 3), w(3, "B2", 3+n))
	}
	checkWords(t, `"a""b"`, w(2, `a"b`, 0))
	checkWords(t, `"a" "b"`, w(2, "a", 0), w(2, "b", 4))
	checkWords(t, `"a"b1"c"`, w(2, "a", 0), w(3, "b1", 3), w(2, "c", 5))
	checkWords(t, `"a"1""`, w(2, "a", 0), w(1, "1", 3), w(2, "", 4))
	checkFault(t, `"a""`, 0, api.ErrToken)
	checkFault(t, `"a"""b`, 5, api.ErrToken)
	checkFault(t, `1"`, 1, api.ErrToken)
	checkFault(t, `A1&"x`, 3, api.ErrToken)
	checkFault(t, `"x"&"y"&"z`, 8, api.ErrToken)
	checkFault(t, `é"`, 0, api.ErrToken)
}

func mistakes() []string { return []string{"#NAME?", "#NUM!", "#REF!", "#VALUE!", "#DIV/0!", "#N/A"} }

func TestErrorTexts(t *testing.T) {
	for _, s := range mistakes() {
		n := len(s)
		checkWords(t, s, w(6, s, 0))
		checkWords(t, s+s, w(6, s, 0), w(6, s, n))
		checkWords(t, s+"1", w(6, s, 0), w(1, "1", n))
		checkWords(t, s+"A1", w(6, s, 0), w(3, "A1", n))
		checkWords(t, s+"(", w(6, s, 0), w(7, "(", n))
		checkWords(t, "1"+s+" ", w(1, "1", 0), w(6, s, 1))
		checkWords(t, "A1"+s+`"`+s+`"`, w(3, "A1", 0), w(6, s, 2), w(2, s, 2+n))
		checkWords(t, "TRUE"+s, w(5, "TRUE", 0), w(6, s, 4))
		checkFault(t, s+"!", n, api.ErrToken)
		checkFault(t, s+"?", n, api.ErrToken)
		checkFault(t, s+"A", n, api.ErrToken)
		checkFault(t, s+"#", n, api.ErrToken)
		for end := 1; end < n; end++ {
			checkFault(t, s[:end], 0, api.ErrToken)
			checkFault(t, "1+"+s[:end]+" ", 2, api.ErrToken)
			checkFault(t, s[:end]+"#"+s[end:], 0, api.ErrToken)
			checkFault(t, s[:end]+" "+s[end:], 0, api.ErrToken)
			checkFault(t, s[:end]+s, 0, api.ErrToken)
		}
		for i, small := range strings.ToLower(s) {
			if byte(small) != s[i] {
				checkFault(t, s[:i]+string(small)+s[i+1:], 0, api.ErrToken)
			}
		}
	}
	for _, s := range []string{"#", "##", "#CYCLE!", "#n/a", "#Ref!", "#REF", "#REF?", "#NAME!", "#NUM?", "#N", "#N/", "#N/B", "#NA", "#NULL!", "#DIV/0", "#DIV/1!", "#DIV!", "#DIV/00!", "#VALUES!", "#VALUE", "#1", "#TRUE", "#A1", "# N/A", "#\xff", "#é", `#"`} {
		checkFault(t, s, 0, api.ErrToken)
		checkFault(t, "A1="+s, 3, api.ErrToken)
		checkFault(t, "#N/A"+s, 4, api.ErrToken)
	}
}

func TestSigns(t *testing.T) {
	for _, s := range signs() {
		n := len(s)
		checkWords(t, s, w(7, s, 0))
		checkWords(t, "1"+s+"2", w(1, "1", 0), w(7, s, 1), w(1, "2", 1+n))
		checkWords(t, " "+s+" "+s, w(7, s, 1), w(7, s, 2+n))
		checkWords(t, `"a"`+s+"TRUE", w(2, "a", 0), w(7, s, 3), w(5, "TRUE", 3+n))
		checkFault(t, s+"'", n, api.ErrToken)
	}
	for s, want := range map[string]string{
		"<<": "< <", ">>": "> >", "==": "= =", "><": "> <", "=<": "= <", "=>": "= >", "<>": "<>", "<=": "<=", ">=": ">=",
		"<>=": "<> =", "<=>": "<= >", "<==": "<= =", ">==": ">= =", "<<>": "< <>", "<<=": "< <=", "<>>": "<> >", "<><>": "<> <>", ">>=": "> >=", ">=>": ">= >", "><=": "> <=", "><>": "> <>", "=<>": "= <>", "==>": "= = >", "<=>=": "<= >=", "<>>=": "<> >=", "<<=>>==": "< <= > >= =", "--": "- -", "((": "( (", "%%": "% %", "**": "* *", "&&": "& &", "::": ": :", "->": "- >", "<-": "< -", ">-": "> -", "(),:^*/+-&=<>%": "( ) , : ^ * / + - & = <> %",
	} {
		var words []api.Word
		at := 0
		for _, sign := range strings.Fields(want) {
			words = append(words, w(7, sign, at))
			at += len(sign)
		}
		checkWords(t, s, words...)
	}
}

// TestFirstFault lays faults of several sorts one behind the other: the first one from the left is told.
func TestFirstFault(t *testing.T) {
	faults := []struct {
		s string
		e api.Errno
	}{{"'", api.ErrToken}, {"é", api.ErrToken}, {"\xff", api.ErrToken}, {"1A", api.ErrToken}, {"A0", api.ErrToken}, {"#REF", api.ErrToken}, {"9223372036854775808", api.ErrNumber}, {"99999999999999999999999", api.ErrNumber}}
	for _, ahead := range []string{"", " ", "1+", "A1 ", `"é"&`, "SUM(", "\u3000\u3000"} {
		for _, first := range faults {
			for _, second := range faults {
				for _, gap := range []string{" ", "+", ",1,"} {
					checkFault(t, ahead+first.s+gap+second.s, len(ahead), first.e)
				}
			}
			checkFault(t, ahead+first.s+` "`, len(ahead), first.e)
			checkFault(t, ahead+`"`+first.s, len(ahead), api.ErrToken)
		}
	}
	checkFault(t, `1 2 3 "a" TRUE ' 9223372036854775808`, 15, api.ErrToken)
	checkFault(t, `1 2 3 "a" TRUE 9223372036854775808 '`, 15, api.ErrNumber)
	checkFault(t, `9223372036854775808A`, 0, api.ErrToken)
	checkFault(t, `9223372036854775808.5`, 0, api.ErrNumber)
	checkFault(t, `9223372036854775808 "`, 0, api.ErrNumber)
	checkFault(t, `" 9223372036854775808`, 0, api.ErrToken)
}

func TestLongTexts(t *testing.T) {
	const bound = 65535
	spaces := func(n int) string { return strings.Repeat(" ", n) }
	checkWords(t, spaces(bound))
	checkWords(t, spaces(bound-1)+"1", w(1, "1", bound-1))
	checkWords(t, "1"+spaces(bound-1), w(1, "1", 0))
	checkWords(t, strings.Repeat("0", bound), w(1, "0", 0))
	checkWords(t, quoted(strings.Repeat("\xff", bound-2)), w(2, strings.Repeat("\xff", bound-2), 0))
	checkWords(t, "A"+strings.Repeat("1", bound-1), w(3, "A"+strings.Repeat("1", bound-1), 0))
	checkWords(t, strings.Repeat("\u3000", bound/3))
	checkFault(t, spaces(bound-1)+"'", bound-1, api.ErrToken)
	checkFault(t, strings.Repeat("9", bound), 0, api.ErrNumber)
	checkFault(t, strings.Repeat("A", bound), 0, api.ErrToken)
	checkFault(t, spaces(bound-1)+`"`, bound-1, api.ErrToken)
	checkFault(t, `"`+spaces(bound-1), 0, api.ErrToken)
	for _, n := range []int{bound + 1, bound + 2, bound + 1000, 1 << 20, 1 << 24} {
		for _, s := range []string{spaces(n), "'" + spaces(n-1), spaces(n-1) + "'", strings.Repeat("9", n), `"` + spaces(n-1), quoted(spaces(n - 2)), strings.Repeat("+", n), strings.Repeat("A", n), strings.Repeat("\xff", n), " 9223372036854775808" + spaces(n-20)} {
			checkFault(t, s, 0, api.ErrLong)
		}
	}
	// Bytes are counted, not runes.
	checkFault(t, strings.Repeat("\u3000", bound/3)+" ", 0, api.ErrLong)
	checkFault(t, strings.Repeat("\u00a0", bound/2+1), 0, api.ErrLong)
}

func TestManyWords(t *testing.T) {
	within(t, "Cut of long texts", func() {
		for _, unit := range []string{"+", "<", "<=", "1 ", "A1,", `""&`, "#N/A", "#VALUE!", "f(", "TRUE%", "\u3000-", "$A$1:"} {
			many := 65535 / len(unit)
			words, at, e := Cut(strings.Repeat(unit, many))
			one, _, _ := Cut(unit)
			if at != 0 || e != api.OK || len(words) != many*len(one) {
				t.Fatalf("P8.1: Cut of %d times %q gives %d words, %d, %d, not %d", many, unit, len(words), at, e, many*len(one))
			}
			for i, word := range words {
				want := one[i%len(one)]
				want.At += i / len(one) * len(unit)
				if word != want {
					t.Fatalf("P8.1: Cut of %d times %q: word %d is %v, not %v", many, unit, i, word, want)
				}
			}
		}
	})
}

// The model cuts from the front, by expressions, and knows of a text by its rows of quotes.
var (
	blankForm     = regexp.MustCompile("^[\t\n\r \u00a0\u3000]+")
	runForm       = regexp.MustCompile(`^[A-Za-z0-9$_]+`)
	numberForm    = regexp.MustCompile(`^[0-9]+$`)
	nameForm      = regexp.MustCompile(`^[A-Za-z][A-Za-z0-9]*$`)
	referenceForm = regexp.MustCompile(`^\$?[A-Za-z]+\$?[1-9][0-9]*$`)
	mistakeForm   = regexp.MustCompile(`^#(?:NAME\?|NUM!|REF!|VALUE!|DIV/0!|N/A)`)
	signForm      = regexp.MustCompile(`^(?:<>|<=|>=|[(),:^*/+\-&=<>%])`)
	quotesForm    = regexp.MustCompile(`"+`)
)

// model is what Cut is to give.
func model(s string) ([]api.Word, int, api.Errno) {
	if len(s) > 65535 {
		return nil, 0, api.ErrLong
	}
	var words []api.Word
	for at := 0; at < len(s); {
		if gap := blankForm.FindString(s[at:]); gap != "" {
			at += len(gap)
			continue
		}
		word, size, e := modelWord(s[at:])
		if e != api.OK {
			return nil, at, e
		}
		word.At = at
		words = append(words, word)
		at += size
	}
	return words, 0, api.OK
}

func modelWord(s string) (api.Word, int, api.Errno) {
	if run := runForm.FindString(s); run != "" {
		word, e := modelRun(run, s[len(run):])
		return word, len(run), e
	}
	if text := mistakeForm.FindString(s); text != "" {
		return w(6, text, 0), len(text), api.OK
	}
	if text := signForm.FindString(s); text != "" {
		return w(7, text, 0), len(text), api.OK
	}
	if s[0] == '"' {
		for _, row := range quotesForm.FindAllStringIndex(s[1:], -1) {
			if (row[1]-row[0])%2 == 1 {
				return w(2, strings.Join(strings.Split(s[1:row[1]], `""`), `"`), 0), 1 + row[1], api.OK
			}
		}
	}
	return api.Word{}, 0, api.ErrToken
}

func modelRun(run, rest string) (api.Word, api.Errno) {
	open := rest != "" && rest[0] == '('
	up := strings.ToUpper(run)
	switch {
	case numberForm.MatchString(run):
		n, _ := new(big.Int).SetString(run, 10)
		if n.BitLen() > 63 {
			return api.Word{}, api.ErrNumber
		}
		return w(1, n.String(), 0), api.OK
	case !open && (up == "TRUE" || up == "FALSE"):
		return w(5, up, 0), api.OK
	case open && nameForm.MatchString(run):
		return w(4, up, 0), api.OK
	case referenceForm.MatchString(run):
		return w(3, run, 0), api.OK
	}
	return api.Word{}, api.ErrToken
}

// checkModel holds Cut against the model, and tells whether they are alike.
func checkModel(t *testing.T, s string) bool {
	t.Helper()
	words, at, e := Cut(s)
	want, wantAt, wantE := model(s)
	if e != wantE || at != wantAt || !slices.Equal(words, want) {
		t.Errorf("P8.1: Cut(%s) gives %s, %d, %d, not %s, %d, %d", brief(s), briefWords(words), at, e, briefWords(want), wantAt, wantE)
		return false
	}
	return true
}

// shortTexts hands on all texts of at most so many pieces, until one is not taken.
func shortTexts(pieces []string, size int, take func(string) bool) {
	all := []string{""}
	begin := 0
	for range size {
		end := len(all)
		for _, s := range all[begin:end] {
			for _, piece := range pieces {
				all = append(all, s+piece)
			}
		}
		begin = end
	}
	for _, s := range all {
		if !take(s) {
			return
		}
	}
}

func TestAgainstModelShort(t *testing.T) {
	for _, c := range []struct {
		pieces string
		size   int
	}{
		{"A b 0 1 $ _ ( TRUE", 5},
		{`" a ( 1 ` + "\xff", 6},
		{"< > = ( 1", 6},
		{`A1 7 " # #N/A < = ( TRUE . 9223372036854775808 ` + "\u3000 \xe3", 4},
		{"# N / A ! ? NA ME", 5},
	} {
		pieces := append(strings.Split(c.pieces, " "), " ")
		shortTexts(pieces, c.size, func(s string) bool { return checkModel(t, s) })
	}
}

// dice gives numbers that look like chance and are always the same ones.
type dice uint64

func (d *dice) below(n int) int {
	*d = *d*6364136223846793005 + 1442695040888963407
	return int(uint64(*d) >> 33 % uint64(n))
}

func (d *dice) of(list []string) string { return list[d.below(len(list))] }

func TestAgainstModelMixed(t *testing.T) {
	pieces := slices.Concat(blanks(), signs(), mistakes(), []string{
		"0", "7", "007", "12", "9223372036854775807", "9223372036854775808", "00009223372036854775808", "A", "z", "A1", "$b$2", "c$3", "$D4", "AAA70000", "TRUE", "false", "True(", "SUM(", "if(", "a1(", "_", "$", `""`, `"x"`, `"a""b"`, "\"\xff\"", `"`, "#", "#N", "'", ".", "é", "\xff", "\xe3\x80",
	})
	d := dice(8)
	for range 60000 {
		var b strings.Builder
		for range d.below(9) {
			b.WriteString(d.of(pieces))
		}
		if !checkModel(t, b.String()) {
			return
		}
	}
	for range 20000 {
		var b []byte
		for range d.below(12) {
			b = append(b, byte(d.below(256)))
		}
		if !checkModel(t, string(b)) {
			return
		}
	}
}

// writeWord writes a word as P8.2 does.
func writeWord(word api.Word) string {
	if word.Kind == 2 {
		return quoted(word.Text)
	}
	return word.Text
}

// goodWords are words of every kind; those of the kind 4 have their `(` behind them.
func goodWords() [][]api.Word {
	var all [][]api.Word
	for _, s := range []string{"0", "7", "9223372036854775807"} {
		all = append(all, []api.Word{w(1, s, 0)})
	}
	for _, s := range []string{"", "a", `"`, `say "hi"`, `""`, " ", "\xff", "日本", "TRUE", "'#'"} {
		all = append(all, []api.Word{w(2, s, 0)})
	}
	for _, s := range []string{"A1", "a1", "$B2", "b$2", "$ZZ$65536", "AAA70000", "true1"} {
		all = append(all, []api.Word{w(3, s, 0)})
	}
	for _, s := range []string{"SUM", "TRUE", "FALSE", "A1", "X"} {
		all = append(all, []api.Word{w(4, s, 0), w(7, "(", 0)})
	}
	for _, s := range []string{"TRUE", "FALSE"} {
		all = append(all, []api.Word{w(5, s, 0)})
	}
	for _, s := range mistakes() {
		all = append(all, []api.Word{w(6, s, 0)})
	}
	for _, s := range signs() {
		all = append(all, []api.Word{w(7, s, 0)})
	}
	return all
}

// written writes words with what gap gives between each two, and gives the words with their places; a name has its `(` just behind it.
func written(words []api.Word, gap func() string) (string, []api.Word) {
	var b strings.Builder
	placed := slices.Clone(words)
	for i := range placed {
		if i > 0 && placed[i-1].Kind != 4 {
			b.WriteString(gap())
		}
		placed[i].At = b.Len()
		b.WriteString(writeWord(placed[i]))
	}
	return b.String(), placed
}

func checkWritten(t *testing.T, words []api.Word, gap func() string) bool {
	t.Helper()
	s, want := written(words, gap)
	got, at, e := Cut(s)
	if e != api.OK || at != 0 || !slices.Equal(got, want) {
		t.Errorf("P8.2: Cut(%s) gives %s, %d, %d, not %s", brief(s), briefWords(got), at, e, briefWords(want))
		return false
	}
	return true
}

func TestWordsWrittenAgain(t *testing.T) {
	d := dice(82)
	wide := func() string {
		gap := d.of(blanks())
		for range d.below(3) {
			gap += d.of(blanks())
		}
		return gap
	}
	all := goodWords()
	for _, a := range all {
		for _, b := range all {
			for _, blank := range blanks() {
				if !checkWritten(t, slices.Concat(a, b), func() string { return blank }) {
					return
				}
			}
		}
	}
	for range 5000 {
		var words []api.Word
		for range d.below(20) {
			words = append(words, all[d.below(len(all))]...)
		}
		if !checkWritten(t, words, wide) {
			return
		}
	}
}

// TestCutAgain writes what was cut of any text with blanks between, and cuts it again.
func TestCutAgain(t *testing.T) {
	pieces := []string{"1", "007", "A1", "$b2", "TRUE", "true(", "sum(", `""`, `"x"`, `"""y"`, "#N/A", "#DIV/0!", "<", ">", "=", "(", "-", " ", "\u3000", ":"}
	cut := 0
	shortTexts(pieces, 4, func(s string) bool {
		words, _, e := Cut(s)
		if e != api.OK {
			return true
		}
		cut++
		return checkWritten(t, words, func() string { return " " }) && checkWritten(t, words, func() string { return "\u00a0\n" })
	})
	if cut < 10000 {
		t.Errorf("P8.2: only %d texts were cut", cut)
	}
}

func TestNameWithoutItsBracket(t *testing.T) {
	for _, blank := range blanks() {
		checkFault(t, "SUM"+blank+"(", 0, api.ErrToken)
		checkWords(t, "A1"+blank+"(", w(3, "A1", 0), w(7, "(", 2+len(blank)))
		checkWords(t, "TRUE"+blank+"(", w(5, "TRUE", 0), w(7, "(", 4+len(blank)))
	}
}

// spoil writes into all of a list's memory, its spare room too.
func spoil(words []api.Word) {
	whole := words[:cap(words)]
	for i := range whole {
		whole[i] = w(-9, "spoilt", -9)
	}
}

func TestMemory(t *testing.T) {
	texts := []string{"", " ", "1", "1+2", "SUM(A1:B2)", `"a"&"b"`, "TRUE<>#N/A", "-1", "((", strings.Repeat("+", 5), strings.Repeat("1,", 50), strings.Repeat("A1 ", 1000)}
	for _, s := range texts {
		want, _, _ := model(s)
		first, _, _ := Cut(s)
		second, _, _ := Cut(s)
		others := map[string][]api.Word{}
		for _, other := range texts {
			others[other], _, _ = Cut(other)
		}
		spoil(first)
		_ = append(first[:len(first):cap(first)], w(-8, "more", -8), w(-8, "more", -8))
		if len(second) != len(want) || !slices.Equal(second, want) {
			t.Errorf("P8.3: what was written into one list of %s is seen in another one: %s", brief(s), briefWords(second))
		}
		if third, _, _ := Cut(s); !slices.Equal(third, want) {
			t.Errorf("P8.3: what was written into one list of %s is seen in a later one: %s", brief(s), briefWords(third))
		}
		for other, words := range others {
			if otherWant, _, _ := model(other); !slices.Equal(words, otherWant) {
				t.Errorf("P8.3: what was written into a list of %s is seen in one of %s: %s", brief(s), brief(other), briefWords(words))
			}
		}
	}
}

// TestSpareRoom appends to two lists of one text: neither sees what was appended to the other.
func TestSpareRoom(t *testing.T) {
	for _, s := range []string{"1", "1+2", "1+2+3", "A1:B2", "- - - - - -", strings.Repeat("+", 100)} {
		a, _, _ := Cut(s)
		b, _, _ := Cut(s)
		a = append(a, w(-1, "a", -1))
		b = append(b, w(-2, "b", -2))
		if a[len(a)-1] != w(-1, "a", -1) || b[len(b)-1] != w(-2, "b", -2) {
			t.Errorf("P8.3: lists of %s share spare room", brief(s))
		}
	}
}

// TestArgumentsAlone asks the same texts again, between others and from several goroutines.
func TestArgumentsAlone(t *testing.T) {
	texts := []string{"", "1", "Sum(a1:$B2)+007", `"say ""hi"""&"`, `"x`, "'", "9223372036854775808", "TRUE(", "TRUE", "#N/A", "#", "<>=", strings.Repeat(" ", 65536), "A1 B2"}
	var group sync.WaitGroup
	for begin := range 8 {
		group.Go(func() {
			for i := range 400 {
				if !checkModel(t, texts[(begin+i*5)%len(texts)]) {
					return
				}
			}
		})
	}
	group.Wait()
	for _, first := range texts {
		for _, second := range texts {
			checkModel(t, first)
			checkModel(t, second)
			checkModel(t, first)
		}
	}
}
