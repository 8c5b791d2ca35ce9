package parse

import (
	"strings"
	"testing"

	"quadrille/api"
)

func TestTextsThatDoNotBeginWithTheSign(t *testing.T) {
	for _, s := range []string{"", "1", " =1", "'=1", "\t=1", "1=1", "(=1)", "SUM(1)", "\"=1\"", "\x00=", "\uff1d1", "-=1", "é", "\xff", ")", "'", "1.5", "NOPE(1)", times(65536, "1"), times(65537, "x"), times(1<<22, " ")} {
		checkFault(t, s, 0, api.ErrArg)
	}
}

func TestWordsThatCanNotStandThere(t *testing.T) {
	for s, at := range map[string]int{
		// Where a value is missing.
		"==1": 1, "=<1": 1, "=<>1": 1, "=<=1": 1, "=>1": 1, "=>=1": 1, "=&1": 1, "=*1": 1, "=/1": 1, "=^1": 1, "=%": 1, "=%1": 1, "=:A1": 1, "=,1": 1, "=)": 1, "=)1(": 1,
		"=1+*2": 3, "=1*/2": 3, "=1^^2": 3, "=1&&2": 3, "=1==2": 3, "=1=>2": 3, "=1<>=2": 4, "=1<<2": 3, "=1+%": 3, "=-%1": 2, "=-*1": 2, "=1^%": 3, "=-)": 2, "=+,": 2, "=1-:A1": 3,
		"=()": 2, "=(())": 3, "=(*1)": 2, "=(,1)": 2, "=(1+)": 4, "=(-)": 3, "=(%)": 2, "=(:A1)": 2,
		"=SUM(,1)": 5, "=SUM(1,)": 7, "=SUM(1,,2)": 7, "=SUM(,)": 5, "=SUM(*1)": 5, "=SUM(1,*1)": 7, "=SUM(-)": 6, "=SUM(1,2,)": 9, "=NA(,)": 4, "=ROW(:A1)": 5,
		// Where no further value may come.
		"=1 2": 3, "=A1 B1": 4, "=1 A1": 3, "=\"a\"\"b\" \"c\"": 8, "=TRUE FALSE": 6, "=#N/A#N/A": 5, "=1%2": 3, "=1% 2%": 4, "=1(2)": 2, "=(1)2": 4, "=(1)(2)": 4, "=NA()1": 5, "=NA()(1)": 5, "=NA()NA()": 5, "=A1 (1)": 4, "=$A1(1)": 4, "=1 NOPE(1)": 3, "=A1 SUM(1)": 4, "=(1)NOPE(": 4, "=1\"a\"": 2, "=\"a\"1": 4, "=A1#REF!": 3, "=1#N/A": 2, "=1 A1:B2": 3, "=A1:B2 1": 7, "=A1:B2 C3": 7, "=A1:B2(1)": 4, "=1%(2)": 3,
		"=SUM(1 2)": 7, "=SUM(1,2 3)": 9, "=(1 2)": 4, "=SUM((1)2)": 8,
		// Closed, or parted, where nothing is open, or nothing that has parts.
		"=1)": 2, "=(1))": 4, "=NA())": 5, "=SUM(1))": 7, "=1,2": 2, "=(1,2)": 3, "=A1,B1": 3, "=(SUM(1),2)": 8, "=SUM((1,2))": 7, "=1+2)": 4, "=1%)": 3, "=-1,": 3, "=A1:B2)": 6,
		// Colons stand between two references alone.
		"=A1:": 4, "=A1:1": 4, "=A1:-B2": 4, "=A1:(B2)": 4, "=(A1):B2": 5, "=(A1:B2):C3": 8, "=A1:B2:C3": 6, "=A1:B2:": 6, "=A1::B2": 4, "=A1%:B2": 4, "=1:A1": 2, "=1:2": 2, "=\"A1\":B2": 5, "=TRUE:B2": 5, "=#REF!:A1": 6, "=NA():A1": 5, "=A1:NA()": 4, "=A1:NOPE()": 4, "=A1:B2()": 4, "=A1:#REF!": 4, "=A1:TRUE": 4, "=A1:\"B2\"": 4, "=SUM(A1:)": 8, "=SUM(A1:,B2)": 8, "=INDEX(A1:B2,1,1):C3": 17, "=A1:+B2": 4, "=A1=:B2": 4, "=A1:=B2": 4, "=A1:)": 4, "=A1+1:B2": 5, "=OFFSET(A1,1,1):A1": 15,
	} {
		checkFault(t, s, at, api.ErrSyntax)
		checkFault(t, s+"+NOPE(", at, api.ErrSyntax)
		checkFault(t, s+"+ABS(", at, api.ErrSyntax)
		if at < len(s) {
			checkFault(t, s+" ABS()", at, api.ErrSyntax)
			checkFault(t, s+times(300, "("), at, api.ErrSyntax)
			checkFault(t, s+times(600, "+1"), at, api.ErrSyntax)
		}
		// A fault of the words' own bytes comes ahead of it, wherever it stands.
		checkFault(t, s+" '", len(s)+1, api.ErrToken)
		checkFault(t, s+" 9223372036854775808", len(s)+1, api.ErrNumber)
		checkFault(t, "=ABS(1)*-"+s[1:], at+8, api.ErrSyntax)
	}
}

func TestWordsMissingAtTheEnd(t *testing.T) {
	for _, s := range []string{
		"=", "=-", "=+", "=--+", "=(", "=((", "=-(", "=1+", "=1-", "=1*", "=1/", "=1^", "=1&", "=1=", "=1<>", "=1<", "=1<=", "=1>", "=1>=", "=1+-", "=1%+", "=(1", "=((1)", "=(1+2", "=(1%", "=(A1:B2", "=A1:", "=AAA1:", "=A1:B2+",
		"=NA(", "=SUM(", "=SUM(1", "=SUM(1,", "=SUM(1,2", "=SUM((", "=SUM((1", "=SUM((1)", "=SUM(-", "=SUM(A1:", "=SUM(A1:B2", "=SUM(SUM(1)", "=SUM(NA(", "=ABS(1,2", "=ABS(1,2,", "=MID(1", "=NA(1", "=1+SUM(1)*(", "=\"a\"&", "=TRUE=", "=#N/A+",
	} {
		for _, blank := range []string{"", " ", "\t\n", "\u00a0", "\u3000\u3000"} {
			checkFault(t, s+blank, len(s)+len(blank), api.ErrSyntax)
		}
		checkFault(t, s+" 1.5", len(s)+2, api.ErrToken)
		checkFault(t, s+"\"", len(s), api.ErrToken)
	}
}

func TestNamesThatAreNoFunctions(t *testing.T) {
	for _, name := range []string{"NOPE", "nope", "A", "x", "SUMM", "SU", "SUM1", "sums", "A1", "ZZ65536", "AAA1", "TRUE", "false", "True", "A0", "IFS", "NAN", "Z9Z9", "E", times(1000, "SUM"), times(30000, "x")} {
		n := len(name)
		for _, behind := range []string{"", ")", "1", "1)", "1,", ",", "(", "*", ")(", "ABS())", "NOPE("} {
			checkFault(t, "="+name+"("+behind, 1, api.ErrNone)
			checkFault(t, "=-"+name+"("+behind, 2, api.ErrNone)
			checkFault(t, "=1+("+name+"("+behind, 4, api.ErrNone)
			checkFault(t, "=SUM(1,"+name+"("+behind, 7, api.ErrNone)
			checkFault(t, "=NA("+name+"("+behind, 4, api.ErrNone)
		}
		checkFault(t, "=1 "+name+"()", 3, api.ErrSyntax)
		checkFault(t, "=A1:"+name+"()", 4, api.ErrSyntax)
		checkFault(t, "=1+"+name+"()'", 5+n, api.ErrToken)
		checkFault(t, "="+name+"("+times(300, "("), 1, api.ErrNone)
		checkFault(t, "="+name+"("+name+"(", 1, api.ErrNone)
	}
}

func TestTheFirstFaultIsTold(t *testing.T) {
	deep, least := times(256, "("), times(255, "(")
	for _, c := range []struct {
		s  string
		at int
		e  api.Errno
	}{
		// A number of arguments is wrong when the `)` comes, not ahead of it.
		{"=ABS(1,2", 8, api.ErrSyntax}, {"=ABS(1,2+", 9, api.ErrSyntax}, {"=ABS(1,2 3)", 9, api.ErrSyntax}, {"=ABS(1,NOPE(", 7, api.ErrNone}, {"=ABS(1,2)*)", 1, api.ErrArg}, {"=ABS(1,ABS())", 7, api.ErrArg}, {"=ABS(ABS(),2)", 5, api.ErrArg}, {"=ABS(ABS(1),ABS(2))", 1, api.ErrArg}, {"=ABS(,2)", 5, api.ErrSyntax}, {"=ABS(1,)", 7, api.ErrSyntax}, {"=NA(1)+ABS()", 1, api.ErrArg}, {"=NA(NA(1))", 4, api.ErrArg}, {"=NA(1,(2)", 9, api.ErrSyntax}, {"=NA((1,2)", 6, api.ErrSyntax}, {"=MID(1)+NOPE(1)", 1, api.ErrArg}, {"=MID(1)NOPE(1)", 1, api.ErrArg}, {"=MID(1) 1", 1, api.ErrArg}, {"=MID(1):A1", 1, api.ErrArg}, {"=SUM(MID(1)", 5, api.ErrArg},
		// A name is wrong where it stands.
		{"=NOPE(1 2)", 1, api.ErrNone}, {"=NOPE(ABS())", 1, api.ErrNone}, {"=NOPE(NOPE2(", 1, api.ErrNone}, {"=ABS()+NOPE(1)", 1, api.ErrArg}, {"=NOPE(1)+ABS()", 1, api.ErrNone}, {"=1 2+NOPE(1)", 3, api.ErrSyntax}, {"=NOPE(1) 2", 1, api.ErrNone}, {"=*NOPE()", 1, api.ErrSyntax}, {"=1+*NOPE()", 3, api.ErrSyntax}, {"=1+NOPE()*", 3, api.ErrNone},
		// Words of wrong bytes come ahead of all, and the first of them is told.
		{"=*'", 2, api.ErrToken}, {"=NOPE('", 6, api.ErrToken}, {"=ABS()'", 6, api.ErrToken}, {"='*", 1, api.ErrToken}, {"=1+)\"", 4, api.ErrToken}, {"=1.5 2", 2, api.ErrToken}, {"=) 9223372036854775808 '", 3, api.ErrNumber}, {"=) ' 9223372036854775808", 3, api.ErrToken}, {"=" + times(300, "(") + "_", 301, api.ErrToken}, {"=1" + times(600, "+1") + "#", 1202, api.ErrToken}, {"=\"" + times(20000, "x") + "\" 1A", 20004, api.ErrToken}, {"=SUM(1", 6, api.ErrSyntax}, {"=SUM(1.", 6, api.ErrToken}, {"=SUM(1\"", 6, api.ErrToken}, {"=NOPE", 1, api.ErrToken}, {"=NOPE (1)", 1, api.ErrToken},
		// Too many brackets within one another.
		{"=" + deep + "(", 257, api.ErrLong}, {"=" + deep + "()", 257, api.ErrLong}, {"=" + deep + "NOPE(", 257, api.ErrNone}, {"=" + deep + "SUM(", 260, api.ErrLong}, {"=" + deep + "ABS()", 260, api.ErrLong}, {"=" + deep + "*(", 257, api.ErrSyntax}, {"=" + deep + ")(", 257, api.ErrSyntax}, {"=" + deep + "1(", 258, api.ErrSyntax}, {"=" + deep + "1 (", 259, api.ErrSyntax}, {"=" + deep + "A1:(", 260, api.ErrSyntax}, {"=" + deep + "1 SUM(", 259, api.ErrSyntax}, {"=" + deep + "-(", 258, api.ErrLong}, {"=" + deep + "1+(", 259, api.ErrLong}, {"=" + deep, 257, api.ErrSyntax}, {"=" + deep + "1", 258, api.ErrSyntax},
		{"=ABS()+" + deep + "(", 1, api.ErrArg}, {"=NOPE()+" + deep + "(", 1, api.ErrNone}, {"=1 " + deep + "(", 3, api.ErrSyntax}, {"=ABS(1," + least + "(", 262, api.ErrLong}, {"=" + least + "ABS()", 256, api.ErrArg}, {"=" + least + "ABS(ABS())", 263, api.ErrLong}, {"=" + least + "ABS(NOPE())", 260, api.ErrNone}, {"=" + least + "MOD(1)", 256, api.ErrArg}, {"=" + deep + "(*NOPE(ABS()", 257, api.ErrLong},
		// What is too great is told when all words have come.
		{"=1" + times(600, "+1") + ")", 1202, api.ErrSyntax}, {"=1" + times(600, "+1") + "+", 1203, api.ErrSyntax}, {"=1" + times(600, "+1") + "+NOPE(", 1203, api.ErrNone}, {"=1" + times(600, "+1") + "+ABS()", 1203, api.ErrArg}, {"=" + times(100, "-") + "*", 101, api.ErrSyntax}, {"=\"" + times(20000, "x") + "\" 1", 20004, api.ErrSyntax}, {"=ABS(" + "1" + times(600, ",1") + ")", 1, api.ErrArg}, {"=NOPE(\"" + times(20000, "x") + "\")", 1, api.ErrNone}, {"=1" + times(600, "+1") + "+" + deep + "(", 1459, api.ErrLong},
		// A beginning that is missing comes ahead of all.
		{"NOPE('", 0, api.ErrArg}, {" '", 0, api.ErrArg}, {times(70000, "'"), 0, api.ErrArg}, {"(" + deep, 0, api.ErrArg},
		// A text that is too long comes ahead of its words.
		{"='" + times(65535, " "), 1, api.ErrLong}, {"=)" + times(65535, "'"), 1, api.ErrLong}, {"=NOPE(" + times(65531, " "), 1, api.ErrLong}, {"=" + times(65536, "("), 1, api.ErrLong}, {"=" + times(65535, "("), 257, api.ErrLong},
	} {
		checkFault(t, c.s, c.at, c.e)
	}
}

// TestPlacesOfLexFaults asks of faults behind words of several bytes, since places are counted in bytes of the whole text.
func TestPlacesOfLexFaults(t *testing.T) {
	for _, wrong := range []struct {
		s string
		e api.Errno
	}{{"'", api.ErrToken}, {".", api.ErrToken}, {"é", api.ErrToken}, {"\xff", api.ErrToken}, {"\x00", api.ErrToken}, {"1A", api.ErrToken}, {"A0", api.ErrToken}, {"_", api.ErrToken}, {"SUM", api.ErrToken}, {"$", api.ErrToken}, {"#", api.ErrToken}, {"#CYCLE!", api.ErrToken}, {"#n/a", api.ErrToken}, {"\"", api.ErrToken}, {"\"a\"\"", api.ErrToken}, {"9223372036854775808", api.ErrNumber}, {"99999999999999999999", api.ErrNumber}} {
		for _, ahead := range []string{"", " ", "\u3000", "1+", "1 1 ", ")", "NOPE(", "ABS()+", "\"é\"&", "A1:", times(300, "("), "\"" + times(20000, "x") + "\" ", times(60000, " ")} {
			for _, behind := range []string{"", " ", " 1", " )", " '", " 9223372036854775808"} {
				checkFault(t, "="+ahead+wrong.s+behind, 1+len(ahead), wrong.e)
			}
		}
	}
}

func TestBracketsWithinOneAnother(t *testing.T) {
	for _, n := range []int{1, 2, 63, 64, 100, 255, 256} {
		checkTree(t, "="+times(n, "(")+"1"+times(n, ")"), num(1))
		checkTree(t, "="+times(n, " ( ")+"A1"+times(n, " ) "), ref(place(0, 0)))
		// What was closed is not counted.
		closed := times(n, "(") + "1" + times(n, ")")
		checkTree(t, "="+closed+"+"+closed, bin(api.BAdd, num(1), num(1)))
		checkTree(t, "=("+times(n-1, "(")+"1"+times(n-1, ")")+"-"+times(n-1, "(")+"1"+times(n-1, ")")+")", bin(api.BSub, num(1), num(1)))
	}
	for _, n := range []int{257, 258, 300, 1000, 60000} {
		checkFault(t, "="+times(n, "("), 257, api.ErrLong)
		checkFault(t, "="+times(n, "(")+"1", 257, api.ErrLong)
		checkFault(t, "= "+times(n, "(")+")", 258, api.ErrLong)
		checkFault(t, "=NA()+"+times(n, "("), 262, api.ErrLong)
		checkFault(t, "=(1)+"+times(n, "("), 261, api.ErrLong)
	}
	checkFault(t, "="+times(257, "(")+"1"+times(257, ")"), 257, api.ErrLong)
	checkFault(t, "="+times(257, " ( ")+"1"+times(257, " ) "), 770, api.ErrLong)
	checkFault(t, "="+times(256, "-(")+"(1", 513, api.ErrLong)
	checkFault(t, "="+times(256, "(")+"1"+times(255, ")"), 513, api.ErrSyntax)
	checkFault(t, "="+times(256, "(")+"1"+times(257, ")"), 514, api.ErrSyntax)
	checkRead(t, "="+times(255, "(")+"(1)+(1)"+times(255, ")"))
	checkFault(t, "="+times(255, "(")+"(1)+((1))"+times(255, ")"), 261, api.ErrLong)
	many := strings.TrimPrefix(times(300, ",(1)"), ",")
	checkTree(t, "=SUM("+many+")", fun(api.FSum, ones(300)...))
}

func TestCallsWithinOneAnother(t *testing.T) {
	// Calls are deeper than a tree may be long before they are too many; that is told behind it.
	for _, n := range []int{64, 65, 255, 256} {
		s := "=" + times(n, "ABS(") + "1" + times(n, ")")
		checkFault(t, s, len(s), api.ErrLong)
		s = "=" + times(n, "SUM(1,") + "1" + times(n, ")")
		checkFault(t, s, len(s), api.ErrLong)
		checkFault(t, "="+times(n, "ABS("), 1+4*n, api.ErrSyntax)
	}
	checkFault(t, "="+times(257, "ABS(")+"1"+times(257, ")"), 1+256*4+3, api.ErrLong)
	checkFault(t, "="+times(300, "ABS("), 1+256*4+3, api.ErrLong)
	checkFault(t, "="+times(257, "SUM(1,")+"1"+times(257, ")"), 1+256*6+3, api.ErrLong)
	checkFault(t, "="+times(128, "(SUM(")+"(1", 1+128*5, api.ErrLong)
	checkFault(t, "="+times(128, "(SUM(")+"NA()", 1+128*5+2, api.ErrLong)
	for calls := range 64 {
		want := num(1)
		for range calls {
			want = fun(api.FAbs, want)
		}
		brackets := 256 - calls
		checkTree(t, "="+times(calls, "ABS(")+times(brackets, "(")+"1"+times(256, ")"), want)
		checkTree(t, "="+times(brackets, "(")+times(calls, "ABS(")+"1"+times(256, ")"), want)
		checkFault(t, "="+times(calls, "ABS(")+times(brackets, "(")+"(1"+times(257, ")"), 1+4*calls+brackets, api.ErrLong)
		checkFault(t, "="+times(brackets, "(")+times(calls, "ABS(")+"ABS(1"+times(257, ")"), 1+4*calls+brackets+3, api.ErrLong)
		checkFault(t, "="+times(brackets, "(")+times(calls, "ABS(")+"NOPE(", 1+4*calls+brackets, api.ErrNone)
	}
}

func TestNodes(t *testing.T) {
	checkTree(t, "=SUM(1"+times(510, ",1")+")", fun(api.FSum, ones(511)...))
	for _, s := range []string{
		"=SUM(1" + times(511, ",1") + ")", "=SUM(1" + times(512, ",1") + ")", "=SUM(1" + times(30000, ",1") + ")", "=-SUM(1" + times(510, ",1") + ")", "=SUM(1" + times(510, ",1") + ")%", "=SUM(1" + times(509, ",1") + ",-1)", "=SUM(-1" + times(510, ",1") + ")", "=SUM(NA()" + times(511, ",1") + ")",
	} {
		checkFault(t, s, len(s), api.ErrLong)
		checkFault(t, s+"  ", len(s)+2, api.ErrLong)
	}
	// A range is one node, whatever is written in it, and brackets are none.
	checkRead(t, "=SUM(A1:B2"+times(510, ",A1:B2")+")")
	checkRead(t, "=SUM(((1))"+times(510, ",((A1:AAA1))")+")")
	checkRead(t, "=SUM(1,-1"+times(508, ",1")+")")
	row := "SUM(1" + times(254, ",1") + ")"
	checkRead(t, "="+row+"*"+"SUM(1"+times(253, ",1")+")")
	s := "=" + row + "*" + row
	checkFault(t, s, len(s), api.ErrLong)
	checkFault(t, s+"+", len(s)+1, api.ErrSyntax)
}

func TestDepth(t *testing.T) {
	for _, n := range []int{1, 62, 63} {
		want := num(1)
		for range n {
			want = minus(want)
		}
		checkTree(t, "="+times(n, "-")+"1", want)
		checkRead(t, "="+times(n, "+")+"1")
		checkRead(t, "=1"+times(n, "%"))
		checkRead(t, "=1"+times(n, "^1"))
		checkRead(t, "=1"+times(n, "+1"))
		checkRead(t, "="+times(n, "(1&")+"1"+times(n, ")"))
		checkRead(t, "="+times(n, "ABS(")+"1"+times(n, ")"))
		checkRead(t, "="+times(n, "(-")+"1"+times(n, ")"))
		checkRead(t, "="+times(n, "(")+times(n, "-")+"1"+times(n, ")"))
	}
	for _, n := range []int{64, 65, 250, 256} {
		for _, s := range []string{
			"=" + times(n, "-") + "1", "=" + times(n, "+") + "1", "=1" + times(n, "%"), "=1" + times(n, "^1"), "=1" + times(n, "+1"), "=" + times(n, "(1&") + "1" + times(n, ")"), "=" + times(n, "(-") + "1" + times(n, ")"), "=" + times(n-1, "-") + "1%", "=" + times(n-2, "-") + "NA()%%", "=1+" + times(n-1, "-") + "1", "=" + times(n-1, "-") + "1+1", "=ABS(" + times(n-1, "+") + "1)", "=SUM(1,2," + times(n-1, "-") + "1,3)",
		} {
			checkFault(t, s, len(s), api.ErrLong)
			checkFault(t, s+")", len(s), api.ErrSyntax)
		}
	}
	checkRead(t, "=SUM(1,2,"+times(62, "-")+"1,3)")
	checkRead(t, "="+times(61, "-")+"1%%")
	checkRead(t, "=1+"+times(62, "-")+"1")
}

func TestBytesOfTexts(t *testing.T) {
	checkTree(t, "=\""+times(16384, "x")+"\"", txt(times(16384, "x")))
	// Each two quotes are one byte, and runes are counted by their bytes.
	checkTree(t, "=\""+times(16384, "\"\"")+"\"", txt(times(16384, "\"")))
	checkTree(t, "=\""+times(8192, "é")+"\"", txt(times(8192, "é")))
	checkTree(t, "=\""+times(16384, "\xff")+"\"", txt(times(16384, "\xff")))
	checkTree(t, "=\""+times(8192, "x")+"\"&\""+times(8192, "y")+"\"", bin(api.BJoin, txt(times(8192, "x")), txt(times(8192, "y"))))
	checkRead(t, "=SUM(\""+times(16384, "x")+"\""+times(510, ",\"\"")+")")
	// Other words' bytes are not counted.
	checkRead(t, "=\""+times(16384, "x")+"\"&"+times(30000, "0")+"1&"+times(10000, "A")+"1")
	for _, s := range []string{
		"=\"" + times(16385, "x") + "\"", "=\"" + times(16385, "\"\"") + "\"", "=\"" + times(8192, "é") + "x\"", "=\"" + times(8192, "x") + "\"&\"" + times(8193, "y") + "\"", "=\"" + times(65533, "x") + "\"", "=SUM(\"" + times(16384, "x") + "\"" + times(509, ",\"\"") + ",\"x\")", "=IF(TRUE,1,\"" + times(20000, "x") + "\")", "=\"" + times(16384, "x") + "\"&\"" + times(16384, "x") + "\"",
	} {
		checkFault(t, s, len(s), api.ErrLong)
	}
}

func TestBytesOfTheWhole(t *testing.T) {
	for _, s := range []string{"1", "A1:B2", "SUM(1,2)", "\"é\"", "NA()"} {
		want, _, _ := Formula("=" + s)
		blanks := 65536 - 1 - len(s)
		checkTree(t, "="+times(blanks, " ")+s, want)
		checkTree(t, "="+s+times(blanks, " "), want)
		checkFault(t, "="+times(blanks+1, " ")+s, 1, api.ErrLong)
		checkFault(t, "="+s+times(blanks+1, " "), 1, api.ErrLong)
	}
	checkFault(t, "="+times(65535, " "), 65536, api.ErrSyntax)
	checkFault(t, "="+times(65536, " "), 1, api.ErrLong)
	checkFault(t, "="+times(65534, " ")+"+", 65536, api.ErrSyntax)
	checkFault(t, "="+times(65534, " ")+")", 65535, api.ErrSyntax)
	checkTree(t, "="+times(65534, "0")+"1", num(1))
	checkTree(t, "=A"+times(65534, "1"), bad(api.ERef))
	for _, n := range []int{65536, 65537, 100000, 1 << 20, 1 << 24} {
		checkFault(t, "="+times(n, "1"), 1, api.ErrLong)
		checkFault(t, "="+times(n, "("), 1, api.ErrLong)
		checkFault(t, "="+times(n, "="), 1, api.ErrLong)
	}
	// As many signs and operations as a text has room for.
	for _, s := range []string{"=" + times(65534, "-") + "1", "=1" + times(65534, "%"), "=1" + times(32767, "+1"), "=NA()" + times(13106, "^NA()"), "=SUM(1" + times(32764, ",1") + ")", "=" + times(256, "(") + times(65022, "+") + "1" + times(256, ")")} {
		checkFault(t, s, len(s), api.ErrLong)
	}
	checkFault(t, "="+times(65535, "-"), 65536, api.ErrSyntax)
	checkFault(t, "="+times(65534, "-")+"%", 65535, api.ErrSyntax)
}
