package hash

import (
	"bytes"
	"encoding/binary"
	"fmt"
	"hash/fnv"
	"math"
	"math/big"
	"strings"
	"sync"
	"testing"
	"time"

	"quadrille/api"
	"quadrille/value"
)

const (
	least = math.MinInt64
	most  = math.MaxInt64
)

// within fails the test if the work goes on for far longer than it can.
func within(t *testing.T, what string, work func()) {
	t.Helper()
	done := make(chan struct{})
	go func() {
		defer close(done)
		work()
	}()
	select {
	case <-done:
	case <-time.After(20 * time.Second):
		t.Fatalf("P0.1: %s is not done", what)
	}
}

func num(n int64) api.Value { return api.Value{Kind: api.VInt, Int: n} }

func text(s string) api.Value { return api.Value{Kind: api.VText, Text: s} }

func bad(e int64) api.Value { return api.Value{Kind: api.VErr, Int: e} }

func blank() api.Value { return api.Value{} }

func yes() api.Value { return api.Value{Kind: api.VBool, Int: 1} }

func no() api.Value { return api.Value{Kind: api.VBool} }

// brief writes a value without the most of a long text.
func brief(v api.Value) string {
	return fmt.Sprintf("{kind %d, %d, %.60q of %d bytes}", v.Kind, v.Int, v.Text, len(v.Text))
}

func xs(count int) string { return strings.Repeat("x", count) }

// goodTexts gives texts that values may have: without bytes, with bytes that are no UTF-8 or 0, and as long as may be.
func goodTexts() []string {
	every := make([]byte, 256)
	for i := range every {
		every[i] = byte(i)
	}
	return []string{
		"", "a", "b", "ab", "ba", "aa", "A", " ", "0", "1", "5", "-1", "TRUE", "FALSE", "#REF!", "#VALUE!", "é", "€", "𝄞", "aé€𝄞", "\ufffd",
		"\x00", "\x00\x00", "a\x00", "\x00a", "a\x00b", "\x01", "\x00\x00\x00\x00\x00\x00\x00\x05", "\x80", "\xbf", "\xff", "\xff\xff\xff\xff\xff\xff\xff\xff", "\xc0\x80", "\xe2\x82", "\xed\xa0\x80", "\xf4\x90\x80\x80", "a\xffb", string(every),
		xs(7), xs(8), xs(9), xs(31), xs(32), xs(33), xs(255), xs(256), xs(257), xs(32766), xs(32767), strings.Repeat("\x00", 32767), strings.Repeat("\xff", 32767), strings.Repeat("é", 16383), xs(32766) + "\x00",
	}
}

// goodValues gives values that may be, each another one.
func goodValues() []api.Value {
	all := []api.Value{blank(), no(), yes()}
	for _, n := range []int64{
		0, 1, -1, 2, -2, 5, -5, 127, 128, -128, -129, 255, 256, -256, 257, 65535, 65536, 1<<31 - 1, 1 << 31, -1 << 31, 1 << 32, 1<<32 + 5, 1<<53 + 1, 0x0102030405060708, -0x0102030405060708, 1 << 56, 1 << 62, most - 1, most, least + 1, least,
	} {
		all = append(all, num(n))
	}
	for e := int64(api.EName); e <= api.ENA; e++ {
		all = append(all, bad(e))
	}
	for _, s := range goodTexts() {
		all = append(all, text(s))
	}
	return all
}

// wrongValues gives what is no value: kinds that there are none of, and for each kind what its values have not.
func wrongValues() []api.Value {
	return []api.Value{
		{Kind: -1}, {Kind: 5}, {Kind: 6}, {Kind: 255}, {Kind: 256}, {Kind: 257, Int: 5}, {Kind: 259, Text: "a"}, {Kind: -252, Int: 3}, {Kind: least}, {Kind: most}, {Kind: 1 << 32}, {Kind: 1<<32 + 3, Text: "5"}, {Kind: -4, Int: api.ENA}, {Kind: 9, Int: 3, Text: "x"},
		{Int: 1}, {Int: -1}, {Int: 256}, {Int: 1 << 32}, {Int: least}, {Int: most}, {Text: "x"}, {Text: "\x00"}, {Int: 1, Text: "1"}, {Text: xs(32768)},
		{Kind: api.VInt, Text: "x"}, {Kind: api.VInt, Int: 5, Text: "5"}, {Kind: api.VInt, Text: "\x00"}, {Kind: api.VInt, Int: least, Text: " "}, {Kind: api.VInt, Int: most, Text: xs(32768)},
		{Kind: api.VBool, Int: 2}, {Kind: api.VBool, Int: -1}, {Kind: api.VBool, Int: 256}, {Kind: api.VBool, Int: 257}, {Kind: api.VBool, Int: 1 << 32}, {Kind: api.VBool, Int: 1<<32 + 1}, {Kind: api.VBool, Int: least}, {Kind: api.VBool, Int: most},
		{Kind: api.VBool, Text: "FALSE"}, {Kind: api.VBool, Int: 1, Text: "TRUE"}, {Kind: api.VBool, Int: 1, Text: "\x00"}, {Kind: api.VBool, Int: 2, Text: "x"},
		{Kind: api.VText, Int: 1}, {Kind: api.VText, Int: -1, Text: "x"}, {Kind: api.VText, Int: 5, Text: "5"}, {Kind: api.VText, Int: 256, Text: "a"}, {Kind: api.VText, Int: 1 << 32, Text: "x"}, {Kind: api.VText, Int: least},
		text(xs(32768)), text(xs(32769)), text(strings.Repeat("\x00", 65536)), text(xs(1 << 20)), {Kind: api.VText, Int: 1, Text: xs(32768)},
		bad(0), bad(api.ECycle), bad(8), bad(-1), bad(-api.ENA), bad(256 + api.ERef), bad(1<<32 + 1), bad(1<<32 + api.ENA), bad(least), bad(most),
		{Kind: api.VErr, Int: api.EName, Text: "x"}, {Kind: api.VErr, Int: api.ERef, Text: "#REF!"}, {Kind: api.VErr, Int: api.EValue, Text: " "}, {Kind: api.VErr, Int: api.ECycle, Text: "#CYCLE!"}, {Kind: api.VErr, Int: api.ENA, Text: "\x00"}, {Kind: api.VErr, Text: "#REF!"},
	}
}

func allValues() []api.Value { return append(goodValues(), wrongValues()...) }

// modelBytes gives what P6.1 says of a value's bytes, by the library's own way of writing numbers.
func modelBytes(v api.Value) []byte {
	if !value.May(v) {
		return []byte{4, 4}
	}
	switch v.Kind {
	case api.VInt:
		return binary.BigEndian.AppendUint64([]byte{1}, uint64(v.Int))
	case api.VBool:
		return []byte{2, byte(v.Int)}
	case api.VText:
		return []byte("\x03" + v.Text)
	case api.VErr:
		return []byte{4, byte(v.Int)}
	}
	return []byte{0}
}

// librarySum is the library's FNV-1a of 64 bits.
func librarySum(b []byte) uint64 {
	h := fnv.New64a()
	h.Write(b)
	return h.Sum64()
}

// boundlessSum is P6.2's rule word by word with numbers that have no bounds, so that nothing of it rests on wrapping.
func boundlessSum(b []byte) uint64 {
	sum, _ := new(big.Int).SetString("14695981039346656037", 10)
	times := big.NewInt(1099511628211)
	end := new(big.Int).Lsh(big.NewInt(1), 64)
	for _, c := range b {
		sum.Xor(sum, big.NewInt(int64(c)))
		sum.Mod(sum.Mul(sum, times), end)
	}
	return sum.Uint64()
}

// lowest gives the lowest bits of a sum, one by one.
func lowest(sum uint64, width int) uint64 {
	var out uint64
	for i := range width {
		out += (sum >> i) % 2 << i
	}
	return out
}

func checkBytes(t *testing.T, v api.Value, want []byte) {
	t.Helper()
	if got := Bytes(v); !bytes.Equal(got, want) {
		t.Errorf("P6.1: Bytes(%s): %.40v of %d; want %.40v of %d", brief(v), got, len(got), want, len(want))
	}
}

func checkSum(t *testing.T, v api.Value, width int, want uint64, wantErr api.Errno) {
	t.Helper()
	if got, e := Sum(v, width); got != want || e != wantErr {
		t.Errorf("P6.2: Sum(%s, %d): %#x, %d; want %#x, %d", brief(v), width, got, e, want, wantErr)
	}
}

func TestBytes(t *testing.T) {
	for _, c := range []struct {
		v    api.Value
		want []byte
	}{
		{blank(), []byte{0}},
		{num(0), []byte{1, 0, 0, 0, 0, 0, 0, 0, 0}},
		{num(1), []byte{1, 0, 0, 0, 0, 0, 0, 0, 1}},
		{num(5), []byte{1, 0, 0, 0, 0, 0, 0, 0, 5}},
		{num(-1), []byte{1, 255, 255, 255, 255, 255, 255, 255, 255}},
		{num(-2), []byte{1, 255, 255, 255, 255, 255, 255, 255, 254}},
		{num(256), []byte{1, 0, 0, 0, 0, 0, 0, 1, 0}},
		{num(0x0102030405060708), []byte{1, 1, 2, 3, 4, 5, 6, 7, 8}},
		{num(most), []byte{1, 127, 255, 255, 255, 255, 255, 255, 255}},
		{num(least), []byte{1, 128, 0, 0, 0, 0, 0, 0, 0}},
		{no(), []byte{2, 0}},
		{yes(), []byte{2, 1}},
		{text(""), []byte{3}},
		{text("a"), []byte{3, 97}},
		{text("\x00"), []byte{3, 0}},
		{text("a\x00\xff\x80"), []byte{3, 97, 0, 255, 128}},
		{text("é"), []byte{3, 195, 169}},
		{bad(api.EName), []byte{4, 1}},
		{bad(api.ENum), []byte{4, 2}},
		{bad(api.ERef), []byte{4, 3}},
		{bad(api.EValue), []byte{4, 4}},
		{bad(api.EDiv), []byte{4, 5}},
		{bad(api.ENA), []byte{4, 6}},
	} {
		checkBytes(t, c.v, c.want)
	}
}

func TestBytesOfGoodValues(t *testing.T) {
	for _, v := range goodValues() {
		checkBytes(t, v, modelBytes(v))
	}
	for n := int64(-1000); n <= 1000; n++ {
		for _, m := range []int64{n, least + 1000 + n, most - 1000 + n, n << 20, n << 52} {
			checkBytes(t, num(m), modelBytes(num(m)))
		}
	}
	for b := range 256 {
		s := string([]byte{byte(b)})
		checkBytes(t, text(s), []byte{3, byte(b)})
		checkBytes(t, text("x"+s+s), []byte{3, 'x', byte(b), byte(b)})
	}
}

func TestBytesOfWrongValues(t *testing.T) {
	for _, v := range wrongValues() {
		checkBytes(t, v, []byte{4, 4})
	}
	for n := int64(-600); n <= 600; n++ {
		if n < 0 || n > 4 {
			checkBytes(t, api.Value{Kind: int(n)}, []byte{4, 4})
		}
		if n != 0 && n != 1 {
			checkBytes(t, api.Value{Kind: api.VBool, Int: n}, []byte{4, 4})
		}
		if n < api.EName || n > api.ENA {
			checkBytes(t, bad(n), []byte{4, 4})
		}
		if n != 0 {
			checkBytes(t, api.Value{Int: n}, []byte{4, 4})
			checkBytes(t, api.Value{Kind: api.VText, Int: n, Text: "a"}, []byte{4, 4})
		}
	}
}

func TestBytesTellValuesApart(t *testing.T) {
	met := make(map[string]api.Value)
	for _, v := range goodValues() {
		b := string(Bytes(v))
		if other, ok := met[b]; ok {
			t.Errorf("P6.1: Bytes of %s and of %s are alike", brief(v), brief(other))
		}
		met[b] = v
	}
}

// spoil writes into all that a list holds, its spare room too.
func spoil(b []byte) {
	b = b[:cap(b)]
	for i := range b {
		b[i] ^= 0x5a
	}
}

func TestBytesAreNewMemory(t *testing.T) {
	for _, v := range allValues() {
		want := modelBytes(v)
		handed := v
		handed.Text = strings.Clone(v.Text)
		kept := Bytes(handed)
		spoiled := Bytes(handed)
		longer := append(Bytes(handed), "more than was there"...)
		spoil(spoiled)
		spoil(longer)
		if !bytes.Equal(kept, want) {
			t.Errorf("P6.1: Bytes(%s) changed with another answer", brief(v))
		}
		if handed != v {
			t.Errorf("P6.1: what is written into Bytes(%s) changed the value", brief(v))
		}
		checkBytes(t, handed, want)
		checkSum(t, handed, 64, librarySum(want), api.OK)
	}
}

func TestBytesShareNoSpareRoom(t *testing.T) {
	for _, v := range allValues() {
		first, second := Bytes(v), Bytes(v)
		first, second = append(first, 'a'), append(second, 'b')
		if first[len(first)-1] != 'a' || second[len(second)-1] != 'b' {
			t.Errorf("P6.1: two answers of Bytes(%s) share spare room", brief(v))
		}
		spoil(first)
		if want := append(modelBytes(v), 'b'); !bytes.Equal(second, want) {
			t.Errorf("P6.1: what was appended to Bytes(%s) changed with another answer", brief(v))
		}
	}
}

func TestSum(t *testing.T) {
	for _, c := range []struct {
		v    api.Value
		want uint64
	}{
		{blank(), 0xaf63bd4c8601b7df},
		{num(5), 0x529a29dc8ff52e93},
		{num(-1), 0x685cd83ad34b3424},
		{yes(), 0x08395307b4f1348c},
		{text(""), 0xaf63be4c8601b992},
		{text("a"), 0x08364f07b4eef7e9},
		{bad(api.ERef), 0x0824ed07b4dfde30},
	} {
		checkSum(t, c.v, 64, c.want, api.OK)
	}
}

func TestSumIsThatOfTheBytes(t *testing.T) {
	for _, v := range allValues() {
		b := modelBytes(v)
		checkSum(t, v, 64, librarySum(b), api.OK)
		if len(b) < 300 {
			checkSum(t, v, 64, boundlessSum(b), api.OK)
		}
	}
	for n := int64(-1000); n <= 1000; n++ {
		for _, m := range []int64{n, least + 1000 + n, most - 1000 + n} {
			checkSum(t, num(m), 64, librarySum(modelBytes(num(m))), api.OK)
		}
	}
}

func TestSumOfEachWidth(t *testing.T) {
	for _, v := range allValues() {
		whole := librarySum(modelBytes(v))
		for width := range 65 {
			checkSum(t, v, width, lowest(whole, width), api.OK)
		}
	}
}

func TestSumOfNamedWidths(t *testing.T) {
	for _, c := range []struct {
		width int
		want  uint64
	}{{64, 0x529a29dc8ff52e93}, {63, 0x529a29dc8ff52e93}, {62, 0x129a29dc8ff52e93}, {32, 0x8ff52e93}, {8, 0x93}, {7, 0x13}, {1, 1}, {0, 0}} {
		checkSum(t, num(5), c.width, c.want, api.OK)
	}
	// The highest bit is set here, so width 63 tells another sum than width 64.
	checkSum(t, blank(), 64, 0xaf63bd4c8601b7df, api.OK)
	checkSum(t, blank(), 63, 0x2f63bd4c8601b7df, api.OK)
}

func TestSumOfWrongWidths(t *testing.T) {
	widths := []int{least, least + 1, least + 64, -1 << 32, -1<<32 + 8, -256, -65, -64, -63, -8, -2, -1, 65, 66, 127, 128, 129, 255, 256, 264, 320, 1 << 16, 1 << 31, 1 << 32, 1<<32 + 8, 1<<32 + 64, most - 1, most}
	for _, v := range allValues() {
		for _, width := range widths {
			checkSum(t, v, width, 0, api.ErrWidth)
		}
	}
	for width := -1000; width <= 1000; width++ {
		if width < 0 || width > 64 {
			checkSum(t, num(5), width, 0, api.ErrWidth)
		}
	}
}

func TestSumsOfWrongValuesAreThatOfValueError(t *testing.T) {
	want := librarySum([]byte{4, 4})
	for _, v := range wrongValues() {
		for _, width := range []int{0, 1, 8, 63, 64} {
			checkSum(t, v, width, lowest(want, width), api.OK)
		}
	}
}

func TestSameValuesHaveTheSameSum(t *testing.T) {
	for _, a := range allValues() {
		// The text is a copy, so that its address tells nothing.
		b := a
		b.Text = strings.Clone(a.Text)
		if !value.Same(a, b) {
			t.Fatalf("%s is not the same as its copy", brief(a))
		}
		for width := range 65 {
			first, e := Sum(a, width)
			if e != api.OK {
				t.Errorf("P6.2: Sum(%s, %d): error %d", brief(a), width, e)
			}
			checkSum(t, b, width, first, api.OK)
		}
	}
}

func TestTextsFarLongerThanAValue(t *testing.T) {
	within(t, "sums of texts of 64 MiB", func() {
		for _, kind := range []int{api.VBlank, api.VInt, api.VBool, api.VText, api.VErr, 5} {
			v := api.Value{Kind: kind, Text: xs(1 << 26)}
			checkBytes(t, v, []byte{4, 4})
			checkSum(t, v, 64, librarySum([]byte{4, 4}), api.OK)
			checkSum(t, v, 65, 0, api.ErrWidth)
		}
	})
}

// told is all that the calls answer of a value and a width.
type told struct {
	bytes string
	sum   uint64
	err   api.Errno
}

func tell(v api.Value, width int) told {
	sum, e := Sum(v, width)
	return told{string(Bytes(v)), sum, e}
}

func TestAnswersHangOnArgumentsAlone(t *testing.T) {
	type asked struct {
		v     api.Value
		width int
	}
	var calls []asked
	for _, v := range allValues() {
		for _, width := range []int{least, -1, 0, 1, 8, 63, 64, 65, most} {
			calls = append(calls, asked{v, width})
		}
	}
	first := make([]told, len(calls))
	for i, c := range calls {
		first[i] = tell(c.v, c.width)
		if again := tell(c.v, c.width); again != first[i] {
			t.Errorf("P6.3: of %s and %d twice: other answers", brief(c.v), c.width)
		}
	}
	var all sync.WaitGroup
	for range 4 {
		all.Go(func() {
			// Backwards, so that another call came ahead of each.
			for i := len(calls) - 1; i >= 0; i-- {
				if got := tell(calls[i].v, calls[i].width); got != first[i] {
					t.Errorf("P6.3: of %s and %d between other calls: another answer", brief(calls[i].v), calls[i].width)
				}
			}
		})
	}
	all.Wait()
}
