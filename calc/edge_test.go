package calc

import (
	"strings"
	"testing"

	"quadrille/api"
)

func TestEndsOfNumbers(t *testing.T) {
	worthOf(t, api.FAbs, num(most), num(-most))
	worthOf(t, api.FAbs, num(most), num(most))
	worthOf(t, api.FAbs, bad(api.ENum), txt("-9223372036854775808"))
	worthOf(t, api.FAbs, bad(api.EValue), txt("-9223372036854775809"))
	worthOf(t, api.FAbs, bad(api.EValue), txt("9223372036854775808"))
	worthOf(t, api.FSign, num(-1), num(least))
	worthOf(t, api.FSign, num(1), num(most))
	worthOf(t, api.FSign, num(0), num(0))
	worthOf(t, api.FIseven, yes(), num(least))
	worthOf(t, api.FIsodd, no(), num(least))
	worthOf(t, api.FIseven, no(), num(most))
	worthOf(t, api.FIsodd, yes(), num(most))
	worthOf(t, api.FIsodd, yes(), num(-1))
	worthOf(t, api.FIseven, yes(), blank())
	worthOf(t, api.FBitand, num(most), num(most), num(most))
	worthOf(t, api.FBitor, num(most), num(1<<62), num(1<<62-1))
	worthOf(t, api.FBitxor, num(0), num(most), num(most))
	for _, f := range []int{api.FBitand, api.FBitor, api.FBitxor} {
		worthOf(t, f, bad(api.ENum), num(least), num(0))
		worthOf(t, f, bad(api.ENum), num(0), num(least))
		worthOf(t, f, bad(api.ENum), num(-1), num(-1))
		worthOf(t, f, num(0), num(0), num(0))
	}
	worthOf(t, api.FClamp, num(least), num(least), num(least), num(most))
	worthOf(t, api.FClamp, num(most), num(most), num(least), num(most))
	worthOf(t, api.FClamp, num(5), num(least), num(5), num(5))
	worthOf(t, api.FClamp, num(5), num(most), num(5), num(5))
	worthOf(t, api.FClamp, bad(api.ENum), num(0), num(most), num(least))
	worthOf(t, api.FClamp, bad(api.ENum), num(6), num(6), num(5))
}

func TestQuotientsAtTheEnds(t *testing.T) {
	worthOf(t, api.FMod, num(-1), num(most), num(least))
	worthOf(t, api.FMod, num(most-1), num(least), num(most))
	worthOf(t, api.FMod, num(0), num(least), num(least))
	worthOf(t, api.FMod, bad(api.EDiv), num(least), num(0))
	worthOf(t, api.FMod, bad(api.EDiv), num(0), blank())
	worthOf(t, api.FQuotient, num(least), num(least), num(1))
	worthOf(t, api.FQuotient, num(-most), num(most), num(-1))
	worthOf(t, api.FQuotient, num(0), num(most), num(least))
	worthOf(t, api.FQuotient, num(-1), num(least), num(most))
	worthOf(t, api.FQuotient, bad(api.EDiv), num(least), num(0))
	worthOf(t, api.FQuotient, bad(api.EDiv), num(0), no())
	checkBin(t, api.BDiv, num(least), num(-1), bad(api.ENum))
	checkBin(t, api.BDiv, num(-most), num(-1), num(most))
	checkBin(t, api.BDiv, num(0), num(0), bad(api.EDiv))
}

func TestDivisorsAndMultiplesAtTheEnds(t *testing.T) {
	worthOf(t, api.FGcd, num(0), num(0), num(0))
	worthOf(t, api.FGcd, bad(api.ENum), num(least), num(least))
	worthOf(t, api.FGcd, num(1<<62), num(least), num(1<<62))
	worthOf(t, api.FGcd, num(1), num(least), num(most))
	worthOf(t, api.FGcd, num(most), num(0), num(-most))
	worthOf(t, api.FLcm, num(0), num(least), num(0))
	worthOf(t, api.FLcm, num(0), num(0), num(0))
	worthOf(t, api.FLcm, bad(api.ENum), num(least), num(1))
	worthOf(t, api.FLcm, num(most), num(-1), num(most))
	worthOf(t, api.FLcm, num(1<<62), num(-1<<62), num(2))
	worthOf(t, api.FLcm, bad(api.ENum), num(1<<62), num(1<<62-1))
}

func TestFactorials(t *testing.T) {
	product := int64(1)
	for n := int64(1); n <= 20; n++ {
		product *= n
		worthOf(t, api.FFact, num(product), num(n))
	}
	worthOf(t, api.FFact, num(1), num(0))
	worthOf(t, api.FFact, num(1), blank())
	for _, n := range []int64{21, 22, 1 << 32, 1<<32 + 5, most, -1, -20, least} {
		worthOf(t, api.FFact, bad(api.ENum), num(n))
	}
}

func TestPowersOfGreatBases(t *testing.T) {
	for _, c := range []struct {
		a, b int64
		want api.Value
	}{
		{most, 1, num(most)}, {least, 1, num(least)}, {most, 0, num(1)}, {least, 0, num(1)}, {most, 2, bad(api.ENum)}, {least, 2, bad(api.ENum)}, {least, most, bad(api.ENum)}, {most, most, bad(api.ENum)},
		{2, 62, num(1 << 62)}, {2, 63, bad(api.ENum)}, {-2, 62, num(1 << 62)}, {-2, 63, num(least)}, {-2, 64, bad(api.ENum)}, {-2, 65, bad(api.ENum)}, {2, 64, bad(api.ENum)}, {2, most, bad(api.ENum)},
		{3037000499, 2, num(9223372030926249001)}, {3037000500, 2, bad(api.ENum)}, {-3037000499, 2, num(9223372030926249001)}, {2097151, 3, num(9223358842721533951)}, {2097152, 3, bad(api.ENum)}, {-2097152, 3, num(least)}, {-2097153, 3, bad(api.ENum)},
		{3, 39, num(4052555153018976267)}, {3, 40, bad(api.ENum)}, {10, 18, num(1000000000000000000)}, {10, 19, bad(api.ENum)}, {1 << 32, 2, bad(api.ENum)},
		{1, most, num(1)}, {-1, most, num(-1)}, {-1, most - 1, num(1)}, {0, most, num(0)}, {0, 0, num(1)}, {0, 1, num(0)},
		{0, -1, bad(api.ENum)}, {1, -1, bad(api.ENum)}, {-1, -1, bad(api.ENum)}, {1, least, bad(api.ENum)}, {most, -1, bad(api.ENum)},
	} {
		worthOf(t, api.FPower, c.want, num(c.a), num(c.b))
		checkBin(t, api.BPow, num(c.a), num(c.b), c.want)
	}
}

func TestSumsAtTheEnds(t *testing.T) {
	checkBin(t, api.BAdd, num(most), num(1), bad(api.ENum))
	checkBin(t, api.BAdd, num(most-1), num(1), num(most))
	checkBin(t, api.BAdd, num(least), num(-1), bad(api.ENum))
	checkBin(t, api.BAdd, num(least), num(most), num(-1))
	checkBin(t, api.BSub, num(least), num(1), bad(api.ENum))
	checkBin(t, api.BSub, num(least+1), num(1), num(least))
	checkBin(t, api.BSub, num(0), num(least), bad(api.ENum))
	checkBin(t, api.BSub, num(-1), num(least), num(most))
	checkBin(t, api.BMul, num(least), num(-1), bad(api.ENum))
	checkBin(t, api.BMul, num(-1), num(least), bad(api.ENum))
	checkBin(t, api.BMul, num(most), num(-1), num(-most))
	checkBin(t, api.BMul, num(1<<31), num(1<<32), bad(api.ENum))
	checkBin(t, api.BMul, num(-1<<31), num(1<<32), num(least))
	checkBin(t, api.BMul, num(1<<32), num(1<<32), bad(api.ENum))
	checkUn(t, api.UMinus, num(most), num(-most))
	checkUn(t, api.UMinus, num(least+1), num(most))
	checkUn(t, api.UMinus, txt("-9223372036854775808"), bad(api.ENum))
	checkUn(t, api.UPlus, num(least), num(least))
	checkUn(t, api.UPlus, num(most), num(most))
	checkUn(t, api.UPercent, num(least), num(-92233720368547758))
	checkUn(t, api.UPercent, num(most), num(92233720368547758))
	checkUn(t, api.UPercent, num(99), num(0))
	checkUn(t, api.UPercent, num(-99), num(0))
	checkUn(t, api.UPercent, num(100), num(1))
}

// TestTextsThatGrow takes each way in which a text grows just to the most bytes, and just beyond.
func TestTextsThatGrow(t *testing.T) {
	full := xs(32767)
	worthOf(t, api.FRept, txt(full), txt("x"), num(32767))
	worthOf(t, api.FRept, bad(api.EValue), txt("x"), num(32768))
	worthOf(t, api.FRept, txt(full), txt(full), num(1))
	worthOf(t, api.FRept, bad(api.EValue), txt(full), num(2))
	worthOf(t, api.FRept, txt(""), txt(full), num(0))
	worthOf(t, api.FRept, txt(xs(32766)), txt("xx"), num(16383))
	worthOf(t, api.FRept, bad(api.EValue), txt("xx"), num(16384))
	worthOf(t, api.FRept, bad(api.EValue), txt("x"), num(most))
	worthOf(t, api.FRept, bad(api.EValue), txt("xx"), num(1<<62+1))
	worthOf(t, api.FRept, txt(""), txt(""), num(most))
	worthOf(t, api.FRept, txt(""), blank(), num(most))
	worthOf(t, api.FRept, bad(api.EValue), txt(""), num(-1))
	worthOf(t, api.FRept, bad(api.EValue), txt(""), num(least))

	worthOf(t, api.FSubstitute, txt("yy"+full[2:]), txt("a"+full[2:]), txt("a"), txt("yy"))
	worthOf(t, api.FSubstitute, bad(api.EValue), txt("a"+full[1:]), txt("a"), txt("yy"))
	worthOf(t, api.FSubstitute, txt(full), txt(full), txt(""), txt("yy"))
	worthOf(t, api.FSubstitute, txt(full), txt(full), txt("a"), txt("yy"))
	worthOf(t, api.FSubstitute, txt(full), txt("a"), txt("a"), txt(full))
	worthOf(t, api.FSubstitute, bad(api.EValue), txt("aa"), txt("a"), txt(full))
	worthOf(t, api.FSubstitute, bad(api.EValue), txt("a "), txt("a"), txt(full))
	worthOf(t, api.FSubstitute, txt(""), txt(full), txt("x"), txt(""))
	worthOf(t, api.FSubstitute, txt(""), txt(full), txt(full), txt(""))
	worthOf(t, api.FSubstitute, bad(api.EValue), txt(full), txt("x"), txt(full))

	worthOf(t, api.FReplace, txt("c"+full[1:]), txt(full), num(1), num(1), txt("c"))
	worthOf(t, api.FReplace, bad(api.EValue), txt(full), num(1), num(0), txt("c"))
	worthOf(t, api.FReplace, bad(api.EValue), txt(full), num(32768), num(9), txt("c"))
	worthOf(t, api.FReplace, txt(full[1:]+"c"), txt(full), num(32767), num(9), txt("c"))
	worthOf(t, api.FReplace, txt(full), txt(full), num(most), num(most), txt(""))
	worthOf(t, api.FReplace, txt(full), txt(full), num(1), num(most), txt(full))
	worthOf(t, api.FReplace, bad(api.EValue), txt(full), num(2), num(most), txt(full))
	worthOf(t, api.FReplace, bad(api.EValue), txt(full), num(1), num(0), txt(full))

	half := xs(16384)
	checkBin(t, api.BJoin, txt(half), txt(half[1:]), txt(full))
	checkBin(t, api.BJoin, txt(half), txt(half), bad(api.EValue))
	checkBin(t, api.BJoin, txt(full), blank(), txt(full))
	checkBin(t, api.BJoin, txt(""), txt(full), txt(full))
	checkBin(t, api.BJoin, txt(full), num(0), bad(api.EValue))
	checkBin(t, api.BJoin, txt(full), txt(full), bad(api.EValue))
	checkBin(t, api.BJoin, txt(full[4:]), yes(), txt(full[4:]+"TRUE"))
	checkBin(t, api.BJoin, txt(full[4:]), no(), bad(api.EValue))
}

// TestLongTexts asks what does not grow of texts that have as many bytes as there may be.
func TestLongTexts(t *testing.T) {
	full := xs(32767)
	twos := strings.Repeat("é", 16383) + "\xff"
	worthOf(t, api.FLen, num(32767), txt(full))
	worthOf(t, api.FLen, num(16384), txt(twos))
	worthOf(t, api.FLeft, txt(full), txt(full), num(32767))
	worthOf(t, api.FLeft, txt(full[1:]), txt(full), num(32766))
	worthOf(t, api.FLeft, txt(twos), txt(twos), num(most))
	worthOf(t, api.FLeft, txt(twos[:32766]), txt(twos), num(16383))
	worthOf(t, api.FRight, txt("\xff"), txt(twos))
	worthOf(t, api.FRight, txt(twos), txt(twos), num(most))
	worthOf(t, api.FMid, txt("é\xff"), txt(twos), num(16383), num(most))
	worthOf(t, api.FUpper, txt(strings.Repeat("X", 32767)), txt(full))
	worthOf(t, api.FLower, txt(full), txt(strings.Repeat("X", 32767)))
	worthOf(t, api.FTrim, txt(""), txt(strings.Repeat(" ", 32767)))
	worthOf(t, api.FTrim, txt(full), txt(full))
	worthOf(t, api.FReverse, txt("\xff"+twos[:32766]), txt(twos))
	worthOf(t, api.FFind, num(16384), txt("\xff"), txt(twos))
	worthOf(t, api.FFind, num(1), txt(full), txt(full))
	worthOf(t, api.FFind, num(32768), txt(""), txt(full), num(32768))
	worthOf(t, api.FFind, bad(api.EValue), txt(""), txt(full), num(32769))
	worthOf(t, api.FExact, yes(), txt(full), txt(xs(32767)))
	worthOf(t, api.FExact, no(), txt(full), txt(xs(32766)+"y"))
	worthOf(t, api.FCode, num(120), txt(full))
	worthOf(t, api.FText, txt(full), txt(full))
	worthOf(t, api.FT, txt(full), txt(full))
	worthOf(t, api.FValue, bad(api.EValue), txt(strings.Repeat("7", 32767)))
	within(t, "finding in the midst of runes", func() {
		worthOf(t, api.FFind, bad(api.EValue), txt("\xa9"+strings.Repeat("é", 8000)), txt(strings.Repeat("é", 16383)))
	})
}

// TestPlacesAndCounts takes places and counts below 0, 0, 1, at the end and beyond it, and those that together leave 64 bits.
func TestPlacesAndCounts(t *testing.T) {
	in := txt("aé\xffb")
	for n, want := range []string{"", "a", "aé", "aé\xff", "aé\xffb", "aé\xffb", "aé\xffb"} {
		worthOf(t, api.FLeft, txt(want), in, num(int64(n)))
	}
	for n, want := range []string{"", "b", "\xffb", "é\xffb", "aé\xffb", "aé\xffb", "aé\xffb"} {
		worthOf(t, api.FRight, txt(want), in, num(int64(n)))
	}
	for _, f := range []int{api.FLeft, api.FRight} {
		worthOf(t, f, txt("aé\xffb"), in, num(most))
		worthOf(t, f, bad(api.EValue), in, num(-1))
		worthOf(t, f, bad(api.EValue), in, num(least))
		worthOf(t, f, txt(""), txt(""), num(1))
		worthOf(t, f, txt(""), in, blank())
	}
	for from, want := range []string{"é\xff", "\xffb", "b", "", ""} {
		worthOf(t, api.FMid, txt(want), in, num(int64(from+2)), num(2))
		worthOf(t, api.FMid, txt(""), in, num(int64(from+2)), num(0))
	}
	worthOf(t, api.FMid, txt("aé\xffb"), in, num(1), num(most))
	worthOf(t, api.FMid, txt("b"), in, num(4), num(most))
	worthOf(t, api.FMid, txt(""), in, num(most), num(most))
	for _, from := range []int64{0, -1, least} {
		worthOf(t, api.FMid, bad(api.EValue), in, num(from), num(1))
		worthOf(t, api.FReplace, bad(api.EValue), in, num(from), num(1), txt(""))
		worthOf(t, api.FFind, bad(api.EValue), txt(""), in, num(from))
	}
	for _, n := range []int64{-1, least} {
		worthOf(t, api.FMid, bad(api.EValue), in, num(1), num(n))
		worthOf(t, api.FReplace, bad(api.EValue), in, num(1), num(n), txt(""))
		worthOf(t, api.FMid, bad(api.EValue), in, num(n), num(n))
	}
	worthOf(t, api.FReplace, txt("-aé\xffb"), in, num(1), num(0), txt("-"))
	worthOf(t, api.FReplace, txt("a-b"), in, num(2), num(2), txt("-"))
	worthOf(t, api.FReplace, txt("aé\xff-"), in, num(4), num(most), txt("-"))
	worthOf(t, api.FReplace, txt("aé\xffb-"), in, num(5), num(most), txt("-"))
	worthOf(t, api.FReplace, txt("aé\xffb-"), in, num(most), num(most), txt("-"))
	worthOf(t, api.FReplace, txt("-"), in, num(1), num(most), txt("-"))
	worthOf(t, api.FReplace, txt("-"), blank(), num(1), num(0), txt("-"))
	worthOf(t, api.FFind, num(4), txt("b"), in, num(4))
	worthOf(t, api.FFind, bad(api.EValue), txt("b"), in, num(5))
	worthOf(t, api.FFind, num(5), txt(""), in, num(5))
	worthOf(t, api.FFind, bad(api.EValue), txt(""), in, num(6))
	worthOf(t, api.FFind, bad(api.EValue), txt(""), in, num(most))
	worthOf(t, api.FFind, bad(api.EValue), txt("\xa9"), in)
	worthOf(t, api.FFind, num(3), txt("\xff"), in)
}

// TestNumbersOfRunes takes both ends of each span of runes.
func TestNumbersOfRunes(t *testing.T) {
	for n, want := range map[int64]string{0: "\x00", 65: "A", 127: "\x7f", 128: "\xc2\x80", 2047: "\xdf\xbf", 2048: "\xe0\xa0\x80", 55295: "\xed\x9f\xbf", 57344: "\xee\x80\x80", 65533: "\xef\xbf\xbd", 65535: "\xef\xbf\xbf", 65536: "\xf0\x90\x80\x80", 1114111: "\xf4\x8f\xbf\xbf"} {
		worthOf(t, api.FChar, txt(want), num(n))
		worthOf(t, api.FCode, num(n), txt(want))
		worthOf(t, api.FCode, num(n), txt(want+"\xff"))
	}
	for _, n := range []int64{-1, 55296, 56000, 57343, 1114112, 1<<32 + 65, most, least} {
		worthOf(t, api.FChar, bad(api.EValue), num(n))
	}
	worthOf(t, api.FChar, txt("\x00"), blank())
	worthOf(t, api.FChar, bad(api.EValue), txt("A"))
	worthOf(t, api.FCode, bad(api.EValue), txt(""))
	worthOf(t, api.FCode, bad(api.EValue), blank())
	worthOf(t, api.FCode, num(45), num(-5))
	worthOf(t, api.FCode, num(65533), txt("\xed\xa0\x80"))
}

// TestWhichErrorIsTheValue: errors among the arguments go first, then what each argument is looked at as, from the left, then the row's own.
func TestWhichErrorIsTheValue(t *testing.T) {
	worthOf(t, api.FMod, bad(api.EName), num(1), bad(api.EName))
	worthOf(t, api.FMod, bad(api.EName), bad(api.EName), num(0))
	worthOf(t, api.FMod, bad(api.EValue), txt("x"), num(0))
	worthOf(t, api.FMod, bad(api.EValue), num(1), txt("x"))
	worthOf(t, api.FClamp, bad(api.ERef), txt("x"), txt("y"), bad(api.ERef))
	worthOf(t, api.FClamp, bad(api.EDiv), num(5), bad(api.EDiv), bad(api.ERef))
	worthOf(t, api.FClamp, bad(api.EValue), txt("x"), num(3), num(1))
	worthOf(t, api.FClamp, bad(api.EValue), num(5), num(3), txt("x"))
	worthOf(t, api.FBitand, bad(api.EValue), num(-1), txt("x"))
	worthOf(t, api.FPower, bad(api.EValue), txt("x"), num(-1))
	worthOf(t, api.FLeft, bad(api.ENum), txt("ab"), bad(api.ENum))
	worthOf(t, api.FLeft, bad(api.ENum), bad(api.ENum), num(-1))
	worthOf(t, api.FReplace, bad(api.ENA), txt("ab"), num(0), num(-1), bad(api.ENA))
	worthOf(t, api.FReplace, bad(api.EDiv), txt("ab"), txt("x"), bad(api.EDiv), bad(api.ENA))
	worthOf(t, api.FFind, bad(api.ENA), bad(api.ENA), bad(api.EName), bad(api.ENum))
	worthOf(t, api.FNot, bad(api.ENA), bad(api.ENA))
	for e := int64(api.EName); e <= api.ENA; e++ {
		worthOf(t, api.FN, bad(e), bad(e))
		worthOf(t, api.FT, bad(e), bad(e))
		worthOf(t, api.FExact, bad(e), txt("a"), bad(e))
		worthOf(t, api.FIserror, yes(), bad(e))
		worthOf(t, api.FIsblank, no(), bad(e))
	}
	checkBin(t, api.BAdd, txt("x"), bad(api.ERef), bad(api.ERef))
	checkBin(t, api.BDiv, txt("x"), num(0), bad(api.EValue))
	checkBin(t, api.BPow, txt("x"), num(-1), bad(api.EValue))
	checkBin(t, api.BDiv, bad(api.ENA), num(0), bad(api.ENA))
	checkBin(t, api.BJoin, txt(xs(32767)), bad(api.ENA), bad(api.ENA))
	checkBin(t, api.BEq, bad(api.ENA), bad(api.ENA), bad(api.ENA))
	checkBin(t, api.BNe, num(1), bad(api.ENum), bad(api.ENum))
}

// TestOperationsThatAreNone: an operation that is none goes ahead of errors and of what may not be.
func TestOperationsThatAreNone(t *testing.T) {
	for _, v := range values(num(1), txt("1"), blank(), yes(), bad(api.ENA), bad(api.EName), api.Value{Kind: 9}) {
		for _, op := range []int{0, -1, 4, 5, 12, 1 << 32, 1<<32 + 1, least, most} {
			checkUn(t, op, v, bad(api.EValue))
		}
		for _, op := range []int{0, -1, 13, 14, 1 << 32, 1<<32 + 1, least, most} {
			checkBin(t, op, v, num(1), bad(api.EValue))
			checkBin(t, op, num(1), v, bad(api.EValue))
		}
	}
}

// TestOperationsOnWhatMayNotBe: it is taken for #VALUE!, on its own side.
func TestOperationsOnWhatMayNotBe(t *testing.T) {
	for _, wrong := range wrongValues() {
		for op := api.UMinus; op <= api.UPercent; op++ {
			checkUn(t, op, wrong, bad(api.EValue))
		}
		for op := api.BPow; op <= api.BMoreEq; op++ {
			checkBin(t, op, wrong, num(1), bad(api.EValue))
			checkBin(t, op, num(0), wrong, bad(api.EValue))
			checkBin(t, op, wrong, bad(api.ENA), bad(api.EValue))
			checkBin(t, op, bad(api.ENA), wrong, bad(api.ENA))
			checkBin(t, op, wrong, wrong, bad(api.EValue))
		}
	}
}
