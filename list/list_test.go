package list

import (
	"go/ast"
	"go/parser"
	"go/token"
	"math"
	"slices"
	"strconv"
	"strings"
	"sync"
	"testing"

	"quadrille/api"
)

// document is the catalogue as the document has it, a class a line, from ClassScalar on.
const document = `ABS 1, SIGN 1, MOD 2, QUOTIENT 2, POWER 2, GCD 2, LCM 2, FACT 1, ISEVEN 1, ISODD 1, BITAND 2, BITOR 2, BITXOR 2, NOT 1, CLAMP 3, LEN 1, LEFT 1..2, RIGHT 1..2, MID 3, UPPER 1, LOWER 1, TRIM 1, REVERSE 1, FIND 2..3, SUBSTITUTE 3, REPLACE 4, REPT 2, EXACT 2, CODE 1, CHAR 1, VALUE 1, TEXT 1, N 1, T 1, NA 0
ISBLANK 1, ISNUMBER 1, ISTEXT 1, ISLOGICAL 1, ISERROR 1, ISNA 1
IF 2..3, IFERROR 2, IFNA 2, CHOOSE 2.., SWITCH 3..
ROW 0..1, COLUMN 0..1, ROWS 1, COLUMNS 1
INDIRECT 1, OFFSET 3..5, INDEX 2..3
SUM 1.., PRODUCT 1.., COUNT 1.., COUNTA 1.., COUNTBLANK 1.., MIN 1.., MAX 1.., AVERAGE 1.., MEDIAN 1.., LARGE 2, SMALL 2, AND 1.., OR 1.., XOR 1.., CONCAT 1.., JOIN 2.., MATCH 2, VLOOKUP 3, HLOOKUP 3, SUMIF 2..3, COUNTIF 2, SUMPRODUCT 2, FIRST 1..`

// count reads how many arguments, as the document writes it.
func count(t *testing.T, s string) (least, most int) {
	t.Helper()
	from, until, two := strings.Cut(s, "..")
	least, err := strconv.Atoi(from)
	switch {
	case !two:
		most = least
	case until == "":
		most = -1
	default:
		var second error
		most, second = strconv.Atoi(until)
		if second != nil {
			err = second
		}
	}
	if err != nil {
		t.Fatalf("the document's catalogue: %q: %v", s, err)
	}
	return least, most
}

// documentRows gives the document's rows, in the order of the functions' numbers.
func documentRows(t *testing.T) []api.Function {
	t.Helper()
	var rows []api.Function
	for i, line := range strings.Split(document, "\n") {
		for _, one := range strings.Split(line, ", ") {
			name, arguments, _ := strings.Cut(one, " ")
			least, most := count(t, arguments)
			rows = append(rows, api.Function{Name: name, Class: api.ClassScalar + i, Min: least, Max: most})
		}
	}
	if len(rows) != api.Functions {
		t.Fatalf("the document's catalogue has %d functions", len(rows))
	}
	return rows
}

func checkInfo(t *testing.T, f int, want api.Function, wantE api.Errno) {
	t.Helper()
	if row, e := Info(f); row != want || e != wantE {
		t.Errorf("P13.2: Info(%d): %+v, %d; want %+v, %d", f, row, e, want, wantE)
	}
}

func TestInfoOfTheDocumentsExamples(t *testing.T) {
	checkInfo(t, 42, api.Function{Name: "IF", Class: api.ClassLazy, Min: 2, Max: 3}, api.OK)
	checkInfo(t, 52, api.Function{Name: "OFFSET", Class: api.ClassArea, Min: 3, Max: 5}, api.OK)
	checkInfo(t, 35, api.Function{Name: "NA", Class: api.ClassScalar}, api.OK)
	checkInfo(t, 69, api.Function{Name: "JOIN", Class: api.ClassWalking, Min: 2, Max: -1}, api.OK)
	for _, f := range []int{0, 77, math.MinInt64} {
		checkInfo(t, f, api.Function{}, api.ErrArg)
	}
}

func TestInfoOfAllFunctions(t *testing.T) {
	for i, want := range documentRows(t) {
		checkInfo(t, i+1, want, api.OK)
	}
}

func TestInfoOfNoFunction(t *testing.T) {
	for _, f := range []int{0, -1, -2, 77, 78, -76, 1000, 1 << 32, 1<<32 + 1, 1<<32 + 76, math.MaxInt, math.MaxInt - 1, math.MinInt, math.MinInt + 1, math.MinInt + 76} {
		checkInfo(t, f, api.Function{}, api.ErrArg)
	}
}

// TestInfoOfTheEdges asks for those that take none, and those that take any number of arguments: all of them, and no others.
func TestInfoOfTheEdges(t *testing.T) {
	none := []int{api.FNa, api.FRow, api.FColumn}
	endless := []int{api.FChoose, api.FSwitch, api.FSum, api.FProduct, api.FCount, api.FCounta, api.FCountblank, api.FMin, api.FMax, api.FAverage, api.FMedian, api.FAnd, api.FOr, api.FXor, api.FConcat, api.FJoin, api.FFirst}
	for f := 1; f <= api.Functions; f++ {
		row, _ := Info(f)
		if (row.Min == 0) != slices.Contains(none, f) {
			t.Errorf("P13.2: %s takes %d arguments or more", row.Name, row.Min)
		}
		if (row.Max == -1) != slices.Contains(endless, f) {
			t.Errorf("P13.2: %s takes %d arguments at the most", row.Name, row.Max)
		}
		if row.Max != -1 && row.Max < row.Min || row.Min < 0 || row.Max < -1 {
			t.Errorf("P13.2: %s takes %d to %d arguments", row.Name, row.Min, row.Max)
		}
	}
}

// TestNamesOfTheNumbers holds the rows against the names that package api has for the numbers: FSum is SUM's.
func TestNamesOfTheNumbers(t *testing.T) {
	file, err := parser.ParseFile(token.NewFileSet(), "../api/api.go", nil, 0)
	if err != nil {
		t.Fatal(err)
	}
	numbers := map[string]int{}
	ast.Inspect(file, func(n ast.Node) bool {
		spec, ok := n.(*ast.ValueSpec)
		if !ok || len(spec.Names) != 1 || len(spec.Values) != 1 {
			return true
		}
		if value, ok := spec.Values[0].(*ast.BasicLit); ok && value.Kind == token.INT {
			if number, err := strconv.Atoi(value.Value); err == nil {
				numbers[spec.Names[0].Name] = number
			}
		}
		return true
	})
	for f := 1; f <= api.Functions; f++ {
		row, _ := Info(f)
		constant := "F" + row.Name[:1] + strings.ToLower(row.Name[1:])
		if number, some := numbers[constant]; !some || number != f {
			t.Errorf("P13.2: Info(%d) is %s, and api.%s is %d", f, row.Name, constant, number)
		}
	}
}

func checkFind(t *testing.T, name string, want int, wantSome bool) {
	t.Helper()
	if f, some := Find(name); f != want || some != wantSome {
		t.Errorf("P13.1: Find(%.80q): %d, %v; want %d, %v", name, f, some, want, wantSome)
	}
}

func TestFindOfTheDocumentsExamples(t *testing.T) {
	checkFind(t, "ABS", 1, true)
	checkFind(t, "FIRST", 76, true)
	checkFind(t, "SUM", 54, true)
	for _, name := range []string{"sum", "SUM ", ""} {
		checkFind(t, name, 0, false)
	}
}

// TestFindOfAllFunctions asks for each function's name, and for all texts that are another one by one byte.
func TestFindOfAllFunctions(t *testing.T) {
	numbers := map[string]int{}
	for i, row := range documentRows(t) {
		if other, some := numbers[row.Name]; some {
			t.Fatalf("the document's catalogue: %s has two numbers, %d and %d", row.Name, other, i+1)
		}
		numbers[row.Name] = i + 1
	}
	check := func(name string) {
		t.Helper()
		want, some := numbers[name]
		checkFind(t, name, want, some)
	}
	for name, f := range numbers {
		checkFind(t, name, f, true)
		if row, _ := Info(f); row.Name != name {
			t.Errorf("P13.3: Find(%s) is %d, which is %s", name, f, row.Name)
		}
		checkFind(t, strings.Clone(name), f, true)
		for _, wrong := range []string{strings.ToLower(name), strings.ToLower(name[:1]) + name[1:], " " + name, name + " ", "\t" + name, name + "\n", name + name} {
			checkFind(t, wrong, 0, false)
		}
		for at := range len(name) + 1 {
			for c := range 256 {
				one := string([]byte{byte(c)})
				check(name[:at] + one + name[at:])
				if at < len(name) {
					check(name[:at] + one + name[at+1:])
				}
			}
			check(name[:at])
			check(name[at:])
			if at < len(name) {
				check(name[:at] + name[at+1:])
			}
		}
	}
}

// TestNoTwoFunctionsHaveOneName asks the catalogue itself, whatever its names are.
func TestNoTwoFunctionsHaveOneName(t *testing.T) {
	owners := map[string]int{}
	for f := 1; f <= api.Functions; f++ {
		row, _ := Info(f)
		if other, some := owners[row.Name]; some {
			t.Errorf("P13.3: %d and %d have the name %s", other, f, row.Name)
		}
		owners[row.Name] = f
		if found, some := Find(row.Name); found != f || !some {
			t.Errorf("P13.3: Find(%s), the name of %d: %d, %v", row.Name, f, found, some)
		}
	}
}

func TestFindOfNoFunction(t *testing.T) {
	for _, name := range []string{"TRUE", "FALSE", "NOPE", "A1", "FSum", "Sum", "=SUM", "SUM(", "SUM()", "SUM\x00", "\xff", "é", "\uff33\uff35\uff2d", "SU\u039c", "1", "54", "SUMSUM", "ABS SIGN", "ABS,SIGN", strings.Repeat("SUM", 100000), strings.Repeat("x", 1<<24)} {
		checkFind(t, name, 0, false)
	}
	// No other short text of capitals is a name.
	all := map[string]int{}
	for i, row := range documentRows(t) {
		all[row.Name] = i + 1
	}
	for a := 'A'; a <= 'Z'; a++ {
		for b := 'A'; b <= 'Z'; b++ {
			for _, name := range []string{string(a), string([]rune{a, b}), string([]rune{a, b, 'D'}), string([]rune{a, b, 'S'}), string([]rune{'A', a, b})} {
				want, some := all[name]
				checkFind(t, name, want, some)
			}
		}
	}
}

func TestFindHangsOnItsArgumentAlone(t *testing.T) {
	rows := documentRows(t)
	var all sync.WaitGroup
	for worker := range 8 {
		all.Go(func() {
			for i := range 5 * api.Functions {
				f := (i*(2*worker+1))%api.Functions + 1
				if got, some := Find(rows[f-1].Name); got != f || !some {
					t.Errorf("P13.4: Find(%s), among others: %d, %v", rows[f-1].Name, got, some)
				}
				if got, some := Find(strings.ToLower(rows[f-1].Name)); got != 0 || some {
					t.Errorf("P13.4: Find(%s), among others: %d, %v", strings.ToLower(rows[f-1].Name), got, some)
				}
			}
		})
	}
	all.Wait()
}

func TestInfoHangsOnItsArgumentAlone(t *testing.T) {
	rows := documentRows(t)
	var all sync.WaitGroup
	for worker := range 8 {
		all.Go(func() {
			for i := range 20 * api.Functions {
				f := (i*(2*worker+1))%api.Functions + 1
				if row, e := Info(f); row != rows[f-1] || e != api.OK {
					t.Errorf("P13.4: Info(%d), among others: %+v, %d", f, row, e)
				}
				if row, e := Info(-f); row != (api.Function{}) || e != api.ErrArg {
					t.Errorf("P13.4: Info(%d), among others: %+v, %d", -f, row, e)
				}
			}
		})
	}
	all.Wait()
}
