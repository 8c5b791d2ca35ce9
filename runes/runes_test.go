package runes

import (
	"fmt"
	"math"
	"slices"
	"strings"
	"sync"
	"testing"
	"time"

	"quadrille/api"
)

const (
	least = math.MinInt64
	most  = math.MaxInt64
)

// within fails the test if the work goes on for far longer than it can.
func within(t *testing.T, what string, work func()) {
	t.Helper()
	done := make(chan struct{})
	go func() {
		defer close(done)
		work()
	}()
	select {
	case <-done:
	case <-time.After(20 * time.Second):
		t.Fatalf("P0.1: %s is not done", what)
	}
}

// brief writes a text without the most of a long one.
func brief(s string) string {
	if len(s) <= 60 {
		return fmt.Sprintf("%q", s)
	}
	return fmt.Sprintf("%q.. of %d bytes", s[:60], len(s))
}

func xs(count int) string { return strings.Repeat("x", count) }

// wellFormed tells how many bytes the rune has whose UTF-8 form the text begins with, 0 if there is none: by Unicode's table of well-formed bytes, so that no decoder of the library is held against itself.
func wellFormed(s string) int {
	for _, row := range [][]string{
		{"\x00\x7f"},
		{"\xc2\xdf", "\x80\xbf"},
		{"\xe0\xe0", "\xa0\xbf", "\x80\xbf"},
		{"\xe1\xec", "\x80\xbf", "\x80\xbf"},
		{"\xed\xed", "\x80\x9f", "\x80\xbf"},
		{"\xee\xef", "\x80\xbf", "\x80\xbf"},
		{"\xf0\xf0", "\x90\xbf", "\x80\xbf", "\x80\xbf"},
		{"\xf1\xf3", "\x80\xbf", "\x80\xbf", "\x80\xbf"},
		{"\xf4\xf4", "\x80\x8f", "\x80\xbf", "\x80\xbf"},
	} {
		if fitsRow(s, row) {
			return len(row)
		}
	}
	return 0
}

func fitsRow(s string, row []string) bool {
	if len(s) < len(row) {
		return false
	}
	for i, span := range row {
		if s[i] < span[0] || s[i] > span[1] {
			return false
		}
	}
	return true
}

// pieces cuts a text into the bytes of its runes.
func pieces(s string) []string {
	var all []string
	for len(s) > 0 {
		size := max(wellFormed(s), 1)
		all = append(all, s[:size])
		s = s[size:]
	}
	return all
}

// number gives the number of the rune that a piece is, from its bits.
func number(piece string) int64 {
	switch wellFormed(piece) {
	case 1:
		return int64(piece[0])
	case 2:
		return int64(piece[0]&31)<<6 | int64(piece[1]&63)
	case 3:
		return int64(piece[0]&15)<<12 | int64(piece[1]&63)<<6 | int64(piece[2]&63)
	case 4:
		return int64(piece[0]&7)<<18 | int64(piece[1]&63)<<12 | int64(piece[2]&63)<<6 | int64(piece[3]&63)
	}
	return 65533
}

// shortTexts gives all texts of at most so many letters of an alphabet.
func shortTexts(alphabet []string, size int) []string {
	all := []string{""}
	begin := 0
	for range size {
		end := len(all)
		for _, s := range all[begin:end] {
			for _, letter := range alphabet {
				all = append(all, s+letter)
			}
		}
		begin = end
	}
	return all
}

// tellingBytes are those at the bounds of what UTF-8 lets stand at each place.
func tellingBytes() []string {
	return []string{"a", " ", "\x7f", "\x80", "\x8f", "\x90", "\x9f", "\xa0", "\xbf", "\xc1", "\xc2", "\xe0", "\xed", "\xf0", "\xf4", "\xff"}
}

// goodTexts gives texts that are UTF-8.
func goodTexts() []string {
	return []string{
		"", "a", "ab", "abc", "é", "aé", "aéb", "éa", "éé", "€", "a€", "€é", "𝄞", "a𝄞b", "aé€𝄞", "𝄞€éa", "e\u0301", "\x00", "a\x00b", "\x7f", "\u0080", "\u07ff", "\u0800", "\ud7ff", "\ue000", "\ufffd", "\uffff", "\U00010000", "\U0010ffff",
		" ", "  ", " a ", "a  b", "ÀÉÎ", "ß", "ı", "ﬁ", "\t \n", "日本語", strings.Repeat("aé€𝄞", 50),
	}
}

// brokenTexts gives texts with bytes that stand in no rune.
func brokenTexts() []string {
	return []string{
		// Bytes that begin no rune.
		"\x80", "\xbf", "\xff", "\xfe", "\xc0", "\xc1", "\xf5", "\xf8", "\xfc", "a\x80b", "\x80\x80\x80", "é\xa9", "\xff\xff", "\xffé\xff", "aé\xff", "a\xff b",
		// Runes cut short, at the end and in the midst.
		"\xe9", "\xc3", "\xe2", "\xe2\x82", "\xf0", "\xf0\x9d", "\xf0\x9d\x84", "a\xe2\x82", "\xe2\x82a", "\xe2\x82é", "\xc3a", "\xc3\xc3\xa9", "\xf0\x9d\x84a", "\xf0\x9d\x84€", "\xf0\x9d\xe2\x82\xac", "\xe2a\x82\xac",
		// Forms that are too long.
		"\xc0\x80", "\xc1\xbf", "\xe0\x80\x80", "\xe0\x9f\xbf", "\xf0\x80\x80\x80", "\xf0\x8f\xbf\xbf", "\xe0\x82\xa9", "\xc0\xaf", "\xc1\xa1",
		// Halves of pairs.
		"\xed\xa0\x80", "\xed\xad\xbf", "\xed\xb0\x80", "\xed\xbf\xbf", "\xed\xa0\xbd\xed\xb8\x80", "a\xed\xa0\x80b",
		// Beyond the last rune.
		"\xf4\x90\x80\x80", "\xf5\x80\x80\x80", "\xf7\xbf\xbf\xbf", "\xf8\x88\x80\x80\x80", "\xfc\x84\x80\x80\x80\x80",
		"\xff \xff", " \x80 ", "\xe2 \x82", "a\xc3 \xa9b", strings.Repeat("\xff", 100), strings.Repeat("é\xe2\x82", 40),
	}
}

func allTexts() []string { return append(goodTexts(), brokenTexts()...) }

// shortOnes gives those texts that are short enough to be tried in many ways.
func shortOnes(texts []string) []string {
	return slices.DeleteFunc(texts, func(s string) bool { return len(s) > 20 })
}

func checkText(t *testing.T, call, got string, e api.Errno, want string, wantErr api.Errno) {
	t.Helper()
	if got != want || e != wantErr {
		t.Errorf("%s: %s, %d; want %s, %d", call, brief(got), e, brief(want), wantErr)
	}
}

func checkLeft(t *testing.T, s string, n int64, want string, wantErr api.Errno) {
	t.Helper()
	got, e := Left(s, n)
	checkText(t, fmt.Sprintf("P5.2: Left(%s, %d)", brief(s), n), got, e, want, wantErr)
}

func checkRight(t *testing.T, s string, n int64, want string, wantErr api.Errno) {
	t.Helper()
	got, e := Right(s, n)
	checkText(t, fmt.Sprintf("P5.2: Right(%s, %d)", brief(s), n), got, e, want, wantErr)
}

func checkMid(t *testing.T, s string, from, n int64, want string, wantErr api.Errno) {
	t.Helper()
	got, e := Mid(s, from, n)
	checkText(t, fmt.Sprintf("P5.2: Mid(%s, %d, %d)", brief(s), from, n), got, e, want, wantErr)
}

func TestLen(t *testing.T) {
	for s, want := range map[string]int{
		"": 0, "a": 1, "ab": 2, "é": 1, "aé": 2, "€": 1, "𝄞": 1, "aé€𝄞": 4, "e\u0301": 2, "\x00": 1, "\xe9": 1, "\xe2\x82": 2, "\xe2\x82a": 3, "\xf0\x9d\x84": 3, "\xc0\x80": 2, "\xed\xa0\x80": 3, "\xf4\x90\x80\x80": 4, "é\xa9": 2, "\xffé": 2,
	} {
		if got := Len(s); got != want {
			t.Errorf("P5.1: Len(%s): %d; want %d", brief(s), got, want)
		}
	}
	for _, s := range allTexts() {
		if got := Len(s); got != len(pieces(s)) {
			t.Errorf("P5.1: Len(%s): %d; want %d", brief(s), got, len(pieces(s)))
		}
	}
}

// met is a rune as All gives it.
type met struct {
	at int
	r  rune
}

// runesOf gives what All should go over.
func runesOf(s string) []met {
	var all []met
	at := 0
	for _, piece := range pieces(s) {
		all = append(all, met{at, rune(number(piece))})
		at += len(piece)
	}
	return all
}

// walk goes over so many runes at most.
func walk(over func(func(int, rune) bool), count int) []met {
	var all []met
	if count == 0 {
		return all
	}
	for at, r := range over {
		all = append(all, met{at, r})
		if len(all) == count {
			break
		}
	}
	return all
}

func TestAll(t *testing.T) {
	for _, s := range allTexts() {
		over, want := All(s), runesOf(s)
		if over == nil {
			t.Fatalf("P5.1: All(%s) is nil", brief(s))
		}
		for round := range 2 {
			if got := walk(over, -1); !slices.Equal(got, want) {
				t.Errorf("P5.1: All(%s), time %d: %v; want %v", brief(s), round+1, got, want)
			}
		}
	}
}

func TestAllLeftEarly(t *testing.T) {
	for _, s := range allTexts() {
		over, want := All(s), runesOf(s)
		for count := 1; count <= len(want); count++ {
			if got := walk(over, count); !slices.Equal(got, want[:count]) {
				t.Errorf("P5.1: All(%s), left behind %d: %v; want %v", brief(s), count, got, want[:count])
			}
		}
		// Whoever has said that he wants no more is not asked again, whatever a range would do about that.
		calls := 0
		over(func(int, rune) bool { calls++; return false })
		if calls != min(1, len(want)) {
			t.Errorf("P5.1: All(%s), left at once: %d calls", brief(s), calls)
		}
		if got := walk(over, -1); !slices.Equal(got, want) {
			t.Errorf("P5.1: All(%s), behind one left early: %v; want %v", brief(s), got, want)
		}
	}
}

func TestAllWithinItself(t *testing.T) {
	for _, s := range shortOnes(allTexts()) {
		over, want := All(s), runesOf(s)
		var outer []met
		for at, r := range over {
			outer = append(outer, met{at, r})
			if got := walk(over, -1); !slices.Equal(got, want) {
				t.Errorf("P5.1: All(%s) within itself: %v; want %v", brief(s), got, want)
			}
			walk(over, 1)
		}
		if !slices.Equal(outer, want) {
			t.Errorf("P5.1: All(%s) around itself: %v; want %v", brief(s), outer, want)
		}
	}
}

func TestLeftAndRight(t *testing.T) {
	checkLeft(t, "aéb", 2, "aé", api.OK)
	checkLeft(t, "ab", 9, "ab", api.OK)
	checkRight(t, "aéb", 2, "éb", api.OK)
	checkLeft(t, "aé€𝄞", 3, "aé€", api.OK)
	checkRight(t, "aé€𝄞", 3, "é€𝄞", api.OK)
	checkRight(t, "\xe2\x82", 1, "\x82", api.OK)
	checkLeft(t, "\xe2\x82", 1, "\xe2", api.OK)
	checkRight(t, "é\xa9", 1, "\xa9", api.OK)
	checkRight(t, "\xf0\x9d\x84", 2, "\x9d\x84", api.OK)
	for _, s := range allTexts() {
		all := pieces(s)
		for n := range len(all) + 1 {
			checkLeft(t, s, int64(n), strings.Join(all[:n], ""), api.OK)
			checkRight(t, s, int64(n), strings.Join(all[len(all)-n:], ""), api.OK)
		}
		for _, n := range []int64{int64(len(all)) + 1, int64(len(all)) + 2, int64(len(s)) + 1, 1 << 31, 1 << 32, 1<<32 + 1, most - 1, most} {
			checkLeft(t, s, n, s, api.OK)
			checkRight(t, s, n, s, api.OK)
		}
		for _, n := range []int64{-1, -2, -1 << 32, -1<<32 + 1, least, least + 1} {
			checkLeft(t, s, n, "", api.ErrArg)
			checkRight(t, s, n, "", api.ErrArg)
		}
	}
}

func TestLeftAndRightTogetherAreTheText(t *testing.T) {
	for _, s := range allTexts() {
		for n := range Len(s) + 1 {
			left, e1 := Left(s, int64(n))
			right, e2 := Right(s, int64(Len(s)-n))
			if left+right != s || e1 != api.OK || e2 != api.OK {
				t.Errorf("What follows: of %s, %d: %s, %d and %s, %d", brief(s), n, brief(left), e1, brief(right), e2)
			}
		}
	}
}

func TestMid(t *testing.T) {
	checkMid(t, "aéb", 2, 1, "é", api.OK)
	checkMid(t, "ab", 3, 5, "", api.OK)
	checkMid(t, "ab", 2, most, "b", api.OK)
	checkMid(t, "aé€𝄞", 2, 2, "é€", api.OK)
	checkMid(t, "a\xe2\x82b", 2, 2, "\xe2\x82", api.OK)
	for _, s := range shortOnes(allTexts()) {
		all := pieces(s)
		size := int64(len(all))
		for _, from := range []int64{1, 2, 3, size, size + 1, size + 2, 1<<32 + 1, most - 1, most} {
			for _, n := range []int64{0, 1, 2, size - 1, size, size + 1, 1 << 32, most - 1, most} {
				if from < 1 || n < 0 {
					continue
				}
				begin := min(from-1, size)
				end := begin + min(n, size-begin)
				checkMid(t, s, from, n, strings.Join(all[begin:end], ""), api.OK)
			}
		}
	}
}

func TestMidOfWrongNumbers(t *testing.T) {
	checkMid(t, "ab", 0, 1, "", api.ErrArg)
	for _, s := range []string{"", "a", "aéb", "\xff", "\xe2\x82"} {
		for _, from := range []int64{0, -1, -2, -1<<32 + 1, least, least + 1} {
			for _, n := range []int64{0, 1, 2, most, -1, least} {
				checkMid(t, s, from, n, "", api.ErrArg)
			}
		}
		for _, n := range []int64{-1, -2, -1<<32 + 1, least, least + 1} {
			for _, from := range []int64{1, 2, 3, most} {
				checkMid(t, s, from, n, "", api.ErrArg)
			}
		}
	}
}

func TestPiecesOfAllShortTexts(t *testing.T) {
	for _, s := range shortTexts(tellingBytes(), 4) {
		all := pieces(s)
		if !slices.Equal(walk(All(s), -1), runesOf(s)) || Len(s) != len(all) {
			t.Fatalf("P5.1: All(%q): %v, %d; want %v", s, walk(All(s), -1), Len(s), runesOf(s))
		}
		for n := range len(all) + 1 {
			checkLeft(t, s, int64(n), strings.Join(all[:n], ""), api.OK)
			checkRight(t, s, int64(n), strings.Join(all[len(all)-n:], ""), api.OK)
			checkMid(t, s, int64(n)+1, 1, strings.Join(all[n:min(n+1, len(all))], ""), api.OK)
		}
		slices.Reverse(all)
		if got := Turn(s); got != strings.Join(all, "") {
			t.Fatalf("P5.3: Turn(%q): %q", s, got)
		}
		if len(all) > 0 {
			if got, e := Code(s); got != number(all[len(all)-1]) || e != api.OK {
				t.Fatalf("P5.6: Code(%q): %d, %d", s, got, e)
			}
		}
	}
}

func TestUpperAndLower(t *testing.T) {
	for s, want := range map[string][2]string{
		"": {"", ""}, "aé1": {"Aé1", "aé1"}, "AÉz": {"AÉZ", "aÉz"}, "abcxyz": {"ABCXYZ", "abcxyz"}, "ABCXYZ": {"ABCXYZ", "abcxyz"}, "ßıǆﬁ": {"ßıǆﬁ", "ßıǆﬁ"}, "\u212a\u0130": {"\u212a\u0130", "\u212a\u0130"},
		"`{@[": {"`{@[", "`{@["}, "`az{": {"`AZ{", "`az{"}, "@AZ[": {"@AZ[", "@az["}, "a\xffB": {"A\xffB", "a\xffb"}, "\xe2a\x82": {"\xe2A\x82", "\xe2a\x82"}, "\xc1\xa1\xe1\xc3a": {"\xc1\xa1\xe1\xc3A", "\xc1\xa1\xe1\xc3a"}, "a\x00b": {"A\x00B", "a\x00b"},
	} {
		if up, low := Upper(s), Lower(s); up != want[0] || low != want[1] {
			t.Errorf("P5.3: Upper and Lower of %q: %q, %q; want %q, %q", s, up, low, want[0], want[1])
		}
	}
}

func TestUpperAndLowerOfEachByte(t *testing.T) {
	const small, great = "abcdefghijklmnopqrstuvwxyz", "ABCDEFGHIJKLMNOPQRSTUVWXYZ"
	for c := range 256 {
		s := string([]byte{byte(c)})
		up, low := s, s
		if i := strings.Index(small, s); i >= 0 {
			up = great[i : i+1]
		}
		if i := strings.Index(great, s); i >= 0 {
			low = small[i : i+1]
		}
		for _, around := range []string{"", "é", "\xe2", "\x80", "7"} {
			if got := Upper(around + s + around); got != around+up+around {
				t.Errorf("P5.3: Upper(%q): %q", around+s+around, got)
			}
			if got := Lower(around + s + around); got != around+low+around {
				t.Errorf("P5.3: Lower(%q): %q", around+s+around, got)
			}
		}
	}
}

func TestTrim(t *testing.T) {
	for s, want := range map[string]string{
		"": "", " ": "", "  ": "", "     ": "", "a": "a", " a": "a", "a ": "a", " a ": "a", "  a  b ": "a b", "a b": "a b", "a  b": "a b", "a   b    c": "a b c", "   aé  €   𝄞   ": "aé € 𝄞",
		"\t": "\t", "\ta\n": "\ta\n", " \t ": "\t", "\t  \t": "\t \t", "\u00a0a\u00a0": "\u00a0a\u00a0", "\u2003 a": "\u2003 a", "\x00  \x00 ": "\x00 \x00", "  \xff  \xff  ": "\xff \xff", " \xe2  \x82 ": "\xe2 \x82", "\xe2\x82  ": "\xe2\x82", "\xa0  \x20": "\xa0",
	} {
		if got := Trim(s); got != want {
			t.Errorf("P5.3: Trim(%q): %q; want %q", s, got, want)
		}
	}
	for _, s := range shortTexts([]string{" ", "a", "é", "\xff", "\t"}, 6) {
		var words []string
		for word := range strings.SplitSeq(s, " ") {
			if word != "" {
				words = append(words, word)
			}
		}
		if got := Trim(s); got != strings.Join(words, " ") {
			t.Fatalf("P5.3: Trim(%q): %q", s, got)
		}
	}
}

func TestTurn(t *testing.T) {
	for s, want := range map[string]string{
		"": "", "a": "a", "ab": "ba", "é": "é", "aé\xff": "\xfféa", "aé€𝄞": "𝄞€éa", "\xe2\x82": "\x82\xe2", "\x82\xe2": "\xe2\x82", "\xf0\x9d\x84": "\x84\x9d\xf0", "e\u0301": "\u0301e", "a\x00": "\x00a", "\xed\xa0\x80": "\x80\xa0\xed", "  a": "a  ", "\xc0\x80": "\x80\xc0",
		"\xa9\xc3": "é", // The bytes of a turned text may make a rune.
	} {
		if got := Turn(s); got != want {
			t.Errorf("P5.3: Turn(%q): %q; want %q", s, got, want)
		}
	}
	for _, s := range goodTexts() {
		if got := Turn(Turn(s)); got != s {
			t.Errorf("P5.3: Turn(%s) turned: %s", brief(s), brief(got))
		}
	}
}

func checkFind(t *testing.T, what, s string, from int64, want int, wantErr api.Errno) {
	t.Helper()
	if got, e := Find(what, s, from); got != want || e != wantErr {
		t.Errorf("P5.4: Find(%s, %s, %d): %d, %d; want %d, %d", brief(what), brief(s), from, got, e, want, wantErr)
	}
}

func TestFind(t *testing.T) {
	checkFind(t, "b", "éb", 1, 2, api.OK)
	checkFind(t, "", "ab", 3, 3, api.OK)
	checkFind(t, "a", "ab", 2, 0, api.ErrNone)
	checkFind(t, "a", "ab", 4, 0, api.ErrArg)
	checkFind(t, "\xa9", "é", 1, 0, api.ErrNone)
	checkFind(t, "ana", "banana", 1, 2, api.OK)
	checkFind(t, "ana", "banana", 2, 2, api.OK)
	checkFind(t, "ana", "banana", 3, 4, api.OK)
	checkFind(t, "ana", "banana", 5, 0, api.ErrNone)
	checkFind(t, "A", "aA", 1, 2, api.OK)
	checkFind(t, "aé€𝄞", "aé€𝄞", 1, 1, api.OK)
	checkFind(t, "𝄞", "aé€𝄞𝄞", 1, 4, api.OK)
	checkFind(t, "𝄞", "aé€𝄞𝄞", 5, 5, api.OK)
	checkFind(t, "abc", "ab", 1, 0, api.ErrNone)
	checkFind(t, "a*", "aa*", 1, 2, api.OK)
	checkFind(t, "\x00", "a\x00", 1, 2, api.OK)
	checkFind(t, "a", "ba", 3, 0, api.ErrNone)
}

func TestFindInTheMidstOfARune(t *testing.T) {
	checkFind(t, "\xa9\xa9", "é\xa9\xa9", 1, 2, api.OK)
	checkFind(t, "\xa9", "éé\xa9é", 1, 3, api.OK)
	checkFind(t, "\xa9b", "ébé\xa9b", 1, 4, api.OK)
	checkFind(t, "\x82\xac", "€", 1, 0, api.ErrNone)
	checkFind(t, "\x82\xac", "€\xe2a\x82\xac", 1, 4, api.OK)
	checkFind(t, "\x82", "\xe2\x82", 1, 2, api.OK)
	checkFind(t, "\xa9é", "éé\xa9", 1, 0, api.ErrNone)
	// What may end in the midst of one.
	checkFind(t, "\xc3", "aé", 1, 2, api.OK)
	checkFind(t, "a\xe2\x82", "aa€", 1, 2, api.OK)
	// A number is not what is looked for, its bytes are.
	checkFind(t, "\ufffd", "\xff", 1, 0, api.ErrNone)
	checkFind(t, "\xff", "\ufffd", 1, 0, api.ErrNone)
	checkFind(t, "\xff", "\xfe\xff", 1, 2, api.OK)
}

func TestFindOfNothing(t *testing.T) {
	for _, s := range allTexts() {
		for from := range Len(s) + 1 {
			checkFind(t, "", s, int64(from)+1, from+1, api.OK)
		}
	}
}

func TestFindFromWrongPlaces(t *testing.T) {
	for _, s := range allTexts() {
		size := int64(Len(s))
		for _, what := range []string{"", "a", "\xff", s} {
			for _, from := range []int64{0, -1, -2, -1<<32 + 1, least, least + 1, size + 2, size + 3, 1<<32 + 1, most - 1, most} {
				checkFind(t, what, s, from, 0, api.ErrArg)
			}
		}
		checkFind(t, "q", s, size+1, 0, api.ErrNone)
		checkFind(t, s+"q", s, 1, 0, api.ErrNone)
	}
	checkFind(t, "", "é", 3, 0, api.ErrArg)
	checkFind(t, "", "\xe2\x82", 3, 3, api.OK)
}

// findByHand tries one place behind the other.
func findByHand(what, s string, from int) (int, api.Errno) {
	all := pieces(s)
	for p := from; p <= len(all)+1; p++ {
		if strings.HasPrefix(strings.Join(all[p-1:], ""), what) {
			return p, api.OK
		}
	}
	return 0, api.ErrNone
}

func TestFindOfAllShortTexts(t *testing.T) {
	alphabet := []string{"a", "\xc3", "\xa9", "\xe2"}
	whats := shortTexts(alphabet, 3)
	for _, s := range shortTexts(alphabet, 5) {
		for from := range len(pieces(s)) + 1 {
			for _, what := range whats {
				want, wantErr := findByHand(what, s, from+1)
				checkFind(t, what, s, int64(from)+1, want, wantErr)
			}
		}
	}
}

func checkSwap(t *testing.T, s, old, with, want string, wantErr api.Errno) {
	t.Helper()
	got, e := Swap(s, old, with)
	checkText(t, fmt.Sprintf("P5.5: Swap(%s, %s, %s)", brief(s), brief(old), brief(with)), got, e, want, wantErr)
}

func TestSwap(t *testing.T) {
	checkSwap(t, "aaa", "aa", "b", "ba", api.OK)
	checkSwap(t, "ab", "", "x", "ab", api.OK)
	checkSwap(t, "", "", "x", "", api.OK)
	checkSwap(t, "", "a", "x", "", api.OK)
	checkSwap(t, "abc", "b", "", "ac", api.OK)
	checkSwap(t, "abc", "abc", "x", "x", api.OK)
	checkSwap(t, "abc", "abc", "", "", api.OK)
	checkSwap(t, "abc", "abcd", "x", "abc", api.OK)
	checkSwap(t, "abab", "ab", "aab", "aabaab", api.OK)
	checkSwap(t, "ababa", "aba", "x", "xba", api.OK)
	checkSwap(t, "aaaa", "a", "aa", "aaaaaaaa", api.OK)
	checkSwap(t, "xay", "a", "a", "xay", api.OK)
	checkSwap(t, "aabb", "ab", "", "ab", api.OK)
	checkSwap(t, "aA", "A", "b", "ab", api.OK)
	checkSwap(t, "a.b", ".", "$1", "a$1b", api.OK)
	checkSwap(t, "aé€𝄞", "€", "é", "aéé𝄞", api.OK)
	// Bytewise, also within a rune.
	checkSwap(t, "é", "\xa9", "\xa8", "è", api.OK)
	checkSwap(t, "éé", "\xa9\xc3", "", "é", api.OK)
	checkSwap(t, "\xff\xff\xff", "\xff\xff", "é", "é\xff", api.OK)
	checkSwap(t, "\xff", "\ufffd", "x", "\xff", api.OK)
	checkSwap(t, "\xc3-\xa9", "-", "", "é", api.OK)
}

// swapByHand goes through the bytes one by one.
func swapByHand(s, old, with string) string {
	out := ""
	for s != "" {
		if strings.HasPrefix(s, old) {
			out += with
			s = s[len(old):]
		} else {
			out += s[:1]
			s = s[1:]
		}
	}
	return out
}

func TestSwapOfAllShortTexts(t *testing.T) {
	alphabet := []string{"a", "b", "\xc3", "\xa9"}
	for _, s := range shortTexts(alphabet, 5) {
		for _, old := range shortTexts(alphabet, 2)[1:] {
			for _, with := range []string{"", "a", "ab", "\xa9"} {
				checkSwap(t, s, old, with, swapByHand(s, old, with), api.OK)
			}
		}
	}
}

func TestSwapOfLongTexts(t *testing.T) {
	checkSwap(t, xs(32767), "y", "z", xs(32767), api.OK)
	checkSwap(t, xs(32768), "y", "z", "", api.ErrLong)
	checkSwap(t, xs(32766)+"y", "y", "zz", "", api.ErrLong)
	checkSwap(t, xs(32765)+"y", "y", "zz", xs(32765)+"zz", api.OK)
	checkSwap(t, xs(32767)+"y", "y", "", xs(32767), api.OK)
	checkSwap(t, xs(32768)+"y", "y", "", "", api.ErrLong)
	checkSwap(t, "y"+xs(32767), "y", "z", "", api.ErrLong)
	checkSwap(t, "y", "y", xs(32767), xs(32767), api.OK)
	checkSwap(t, "y", "y", xs(32768), "", api.ErrLong)
	checkSwap(t, "yy", "y", xs(16384), "", api.ErrLong)
	checkSwap(t, "yya", "y", xs(16383), xs(32766)+"a", api.OK)
	checkSwap(t, "yyab", "y", xs(16383), "", api.ErrLong)
	checkSwap(t, xs(32767), "x", "é", "", api.ErrLong)
	checkSwap(t, strings.Repeat("é", 32767), "é", "x", xs(32767), api.OK)
	checkSwap(t, strings.Repeat("é", 32768), "é", "x", "", api.ErrLong)
	checkSwap(t, "a", "b", xs(1<<20), "a", api.OK)
	checkSwap(t, "a", xs(1<<20), "b", "a", api.OK)
	checkSwap(t, "", "b", xs(1<<20), "", api.OK)
	checkSwap(t, xs(1<<20), xs(1<<20), "b", "b", api.OK)
	checkSwap(t, xs(1<<20), "x", "", "", api.OK)
	checkSwap(t, xs(1<<20+1), "xx", "", "x", api.OK)
	checkSwap(t, xs(32768)+strings.Repeat("y", 1<<20), "y", "", "", api.ErrLong)
	// Without an old nothing is replaced, so no text is too long.
	checkSwap(t, xs(32768), "", "y", xs(32768), api.OK)
	checkSwap(t, xs(1<<20), "", xs(1<<20), xs(1<<20), api.OK)
}

func checkTimes(t *testing.T, s string, n int64, want string, wantErr api.Errno) {
	t.Helper()
	got, e := Times(s, n)
	checkText(t, fmt.Sprintf("P5.5: Times(%s, %d)", brief(s), n), got, e, want, wantErr)
}

func TestTimes(t *testing.T) {
	checkTimes(t, "ab", 0, "", api.OK)
	checkTimes(t, "ab", 1, "ab", api.OK)
	checkTimes(t, "ab", 3, "ababab", api.OK)
	checkTimes(t, "é\xff", 2, "é\xffé\xff", api.OK)
	checkTimes(t, "\xe2", 3, "\xe2\xe2\xe2", api.OK)
	checkTimes(t, "ab", 16383, strings.Repeat("ab", 16383), api.OK)
	checkTimes(t, "ab", 16384, "", api.ErrLong)
	checkTimes(t, "x", 32767, xs(32767), api.OK)
	checkTimes(t, "x", 32768, "", api.ErrLong)
	checkTimes(t, xs(32767), 1, xs(32767), api.OK)
	checkTimes(t, xs(32767), 2, "", api.ErrLong)
	checkTimes(t, xs(32768), 1, "", api.ErrLong)
	checkTimes(t, xs(32768), 0, "", api.OK)
	checkTimes(t, xs(1<<20), 1, "", api.ErrLong)
	checkTimes(t, xs(1<<20), 0, "", api.OK)
	checkTimes(t, xs(7), 4681, xs(32767), api.OK)
	checkTimes(t, xs(7), 4682, "", api.ErrLong)
	checkTimes(t, xs(16383), 2, xs(32766), api.OK)
	checkTimes(t, xs(16384), 2, "", api.ErrLong)
	for _, n := range []int64{0, 1, 2, 32767, 32768, 1 << 40, most} {
		checkTimes(t, "", n, "", api.OK)
	}
	// Products that are 0 or small where they are held in 64 or in 32 bits.
	for _, n := range []int64{1 << 31, 1 << 32, 1<<32 + 1, 1 << 61, 1 << 62, 1<<62 + 1, most - 1, most} {
		for _, s := range []string{"a", "ab", "abcd", xs(8), xs(1 << 16), xs(32767)} {
			checkTimes(t, s, n, "", api.ErrLong)
		}
	}
	for _, n := range []int64{-1, -2, -1 << 32, -1<<32 + 1, least, least + 1} {
		for _, s := range []string{"", "a", "é", "\xff", xs(32767), xs(1 << 20)} {
			checkTimes(t, s, n, "", api.ErrArg)
		}
	}
}

func TestTimesAtTheBound(t *testing.T) {
	for size := 1; size <= 32768; size = size*5/4 + 1 {
		n := int64(32767 / size)
		checkTimes(t, xs(size), n, xs(size*int(n)), api.OK)
		checkTimes(t, xs(size), n+1, "", api.ErrLong)
	}
}

func checkCode(t *testing.T, s string, want int64, wantErr api.Errno) {
	t.Helper()
	if got, e := Code(s); got != want || e != wantErr {
		t.Errorf("P5.6: Code(%s): %d, %d; want %d, %d", brief(s), got, e, want, wantErr)
	}
}

func TestCode(t *testing.T) {
	checkCode(t, "", 0, api.ErrArg)
	for s, want := range map[string]int64{
		"a": 97, "ab": 97, "é": 233, "éa": 233, "€": 8364, "𝄞a": 119070, "\x00": 0, "\x00a": 0, "\x7f": 127, "\ufffd": 65533, "\U0010ffff": 1114111,
		"\xff": 65533, "\xffa": 65533, "\xe2\x82": 65533, "\x80": 65533, "\xc0\x80": 65533, "\xed\xa0\x80": 65533, "\xf4\x90\x80\x80": 65533, "a\xff": 97,
	} {
		checkCode(t, s, want, api.OK)
	}
	for _, s := range allTexts() {
		if s != "" {
			checkCode(t, s, number(pieces(s)[0]), api.OK)
		}
	}
}

func checkChar(t *testing.T, n int64, want string, wantErr api.Errno) {
	t.Helper()
	got, e := Char(n)
	checkText(t, fmt.Sprintf("P5.6: Char(%d)", n), got, e, want, wantErr)
}

func TestChar(t *testing.T) {
	for n, want := range map[int64]string{
		0: "\x00", 1: "\x01", 32: " ", 97: "a", 127: "\x7f", 128: "\xc2\x80", 233: "\xc3\xa9", 2047: "\xdf\xbf", 2048: "\xe0\xa0\x80", 8364: "\xe2\x82\xac", 55295: "\xed\x9f\xbf", 57344: "\xee\x80\x80", 65533: "\xef\xbf\xbd", 65534: "\xef\xbf\xbe", 65535: "\xef\xbf\xbf", 65536: "\xf0\x90\x80\x80", 119070: "\xf0\x9d\x84\x9e", 1114111: "\xf4\x8f\xbf\xbf",
	} {
		checkChar(t, n, want, api.OK)
	}
	for _, n := range []int64{55296, 55297, 56319, 56320, 57343, 1114112, 1114113, -1, -2, -97, 1 << 31, 1<<31 + 97, 1<<32 - 1, 1 << 32, 1<<32 + 97, -1<<32 + 97, 1<<63 - 1, least, least + 97} {
		checkChar(t, n, "", api.ErrArg)
	}
}

func TestCodeOfChar(t *testing.T) {
	for n := int64(-70000); n <= 1114111+70000; n++ {
		is := 0 <= n && n <= 1114111 && !(55296 <= n && n <= 57343)
		s, e := Char(n)
		if !is {
			if s != "" || e != api.ErrArg {
				t.Fatalf("P5.6: Char(%d): %q, %d", n, s, e)
			}
			continue
		}
		if e != api.OK || wellFormed(s) != len(s) || len(s) == 0 || number(s) != n {
			t.Fatalf("P5.6: Char(%d): %q, %d", n, s, e)
		}
		if code, e := Code(s); code != n || e != api.OK {
			t.Fatalf("What follows: Code(Char(%d)): %d, %d", n, code, e)
		}
	}
}

func TestLongTexts(t *testing.T) {
	within(t, "texts of 16 MiB", func() {
		const half = 1 << 22
		s := strings.Repeat("é\xff ", half)
		if got := Len(s); got != 3*half {
			t.Errorf("P5.1: Len of 16 MiB: %d", got)
		}
		checkLeft(t, s, 3, "é\xff ", api.OK)
		checkRight(t, s, 3*half-1, s[2:], api.OK)
		checkMid(t, s, 3*half-2, most, "é\xff ", api.OK)
		if got := Trim(s); got != s[:len(s)-1] {
			t.Errorf("P5.3: Trim of 16 MiB: %s", brief(got))
		}
		if got := Turn(s); got != strings.Repeat(" \xffé", half) {
			t.Errorf("P5.3: Turn of 16 MiB: %s", brief(got))
		}
		if Upper(s) != s || Lower(s) != s {
			t.Errorf("P5.3: Upper and Lower of 16 MiB")
		}
		checkFind(t, "b", s, 1, 0, api.ErrNone)
		checkFind(t, "\xa9", s, 1, 0, api.ErrNone)
		checkFind(t, "b", s+"b", 1, 3*half+1, api.OK)
		checkFind(t, s, s, 1, 1, api.OK)
		checkFind(t, strings.Repeat("a", half)+"b", strings.Repeat("a", 2*half), 1, 0, api.ErrNone)
		checkSwap(t, s, "b", "", "", api.ErrLong)
		checkSwap(t, s, "é\xff ", s, "", api.ErrLong)
		checkSwap(t, s, " é\xff", "", "é\xff ", api.OK)
		checkCode(t, s, 233, api.OK)
	})
}

// told is all that the calls answer of a text, another one and a number.
type told struct {
	count, found, lastAt                int
	code                                int64
	texts                               [9]string
	left, right, mid, find, swap, times api.Errno
	noCode, noChar                      api.Errno
	lastRune                            rune
}

func tell(s, other string, n int64) told {
	var all told
	all.count = Len(s)
	for at, r := range All(s) {
		all.lastAt, all.lastRune = at, r
	}
	all.texts[0], all.left = Left(s, n)
	all.texts[1], all.right = Right(s, n)
	all.texts[2], all.mid = Mid(s, n, n)
	all.texts[3], all.texts[4], all.texts[5] = Upper(s), Lower(s), Trim(s)+Turn(s)
	all.found, all.find = Find(other, s, n)
	all.texts[6], all.swap = Swap(s, other, "x")
	all.texts[7], all.times = Times(s, n)
	all.code, all.noCode = Code(s)
	all.texts[8], all.noChar = Char(n)
	return all
}

// asked is what the calls are given.
type asked struct {
	s, other string
	n        int64
}

func TestAnswersHangOnArgumentsAlone(t *testing.T) {
	var asks []asked
	for _, s := range shortOnes(allTexts()) {
		for _, other := range []string{"", "a", "\xa9", "é", " "} {
			for _, n := range []int64{least, -1, 0, 1, 2, 233, most} {
				asks = append(asks, asked{s, other, n})
			}
		}
	}
	first := make(map[asked]told)
	for _, a := range asks {
		first[a] = tell(a.s, a.other, a.n)
	}
	var all sync.WaitGroup
	for range 4 {
		all.Go(func() {
			for i := range asks {
				// Backwards, so that another call came ahead of each; the text is a copy, so that its address tells nothing.
				a := asks[len(asks)-1-i]
				if got := tell(strings.Clone(a.s), strings.Clone(a.other), a.n); got != first[a] {
					t.Errorf("P5.7: of %+v: %+v, then %+v", a, first[a], got)
				}
			}
		})
	}
	all.Wait()
}
