package calc

import (
	"cmp"

	"quadrille/api"
	"quadrille/runes"
	"quadrille/whole"
)

// How a row asks for an argument; by any other letter it is taken as it is.
const (
	asNumber = 'n'
	asText   = 't'
	asTruth  = 'b'
)

// row is what a function does: how it asks for its arguments, a letter each, and what it makes of them. One of class asking has no letters, since it is handed errors, too.
type row struct {
	asks string
	do   func(a []api.Value) api.Value
}

// rows gives what the functions do, by their numbers.
func rows() [api.FIsna + 1]row {
	return [...]row{
		api.FAbs:        {"n", size},
		api.FSign:       {"n", func(a []api.Value) api.Value { return number(int64(cmp.Compare(a[0].Int, 0))) }},
		api.FMod:        {"nn", func(a []api.Value) api.Value { return reckoned(whole.Mod(a[0].Int, a[1].Int)) }},
		api.FQuotient:   {"nn", func(a []api.Value) api.Value { return reckoned(whole.Quo(a[0].Int, a[1].Int)) }},
		api.FPower:      {"nn", func(a []api.Value) api.Value { return reckoned(whole.Pow(a[0].Int, a[1].Int)) }},
		api.FGcd:        {"nn", func(a []api.Value) api.Value { return reckoned(whole.Gcd(a[0].Int, a[1].Int)) }},
		api.FLcm:        {"nn", func(a []api.Value) api.Value { return reckoned(whole.Lcm(a[0].Int, a[1].Int)) }},
		api.FFact:       {"n", factorial},
		api.FIseven:     {"n", func(a []api.Value) api.Value { return truth(a[0].Int%2 == 0) }},
		api.FIsodd:      {"n", func(a []api.Value) api.Value { return truth(a[0].Int%2 != 0) }},
		api.FBitand:     {"nn", func(a []api.Value) api.Value { return bitwise(a, a[0].Int&a[1].Int) }},
		api.FBitor:      {"nn", func(a []api.Value) api.Value { return bitwise(a, a[0].Int|a[1].Int) }},
		api.FBitxor:     {"nn", func(a []api.Value) api.Value { return bitwise(a, a[0].Int^a[1].Int) }},
		api.FNot:        {"b", func(a []api.Value) api.Value { return truth(a[0].Int == 0) }},
		api.FClamp:      {"nnn", clamp},
		api.FLen:        {"t", func(a []api.Value) api.Value { return number(int64(runes.Len(a[0].Text))) }},
		api.FLeft:       {"tn", func(a []api.Value) api.Value { return written(runes.Left(a[0].Text, a[1].Int)) }},
		api.FRight:      {"tn", func(a []api.Value) api.Value { return written(runes.Right(a[0].Text, a[1].Int)) }},
		api.FMid:        {"tnn", func(a []api.Value) api.Value { return written(runes.Mid(a[0].Text, a[1].Int, a[2].Int)) }},
		api.FUpper:      {"t", func(a []api.Value) api.Value { return text(runes.Upper(a[0].Text)) }},
		api.FLower:      {"t", func(a []api.Value) api.Value { return text(runes.Lower(a[0].Text)) }},
		api.FTrim:       {"t", func(a []api.Value) api.Value { return text(runes.Trim(a[0].Text)) }},
		api.FReverse:    {"t", func(a []api.Value) api.Value { return text(runes.Turn(a[0].Text)) }},
		api.FFind:       {"ttn", find},
		api.FSubstitute: {"ttt", func(a []api.Value) api.Value { return written(runes.Swap(a[0].Text, a[1].Text, a[2].Text)) }},
		api.FReplace:    {"tnnt", replace},
		api.FRept:       {"tn", func(a []api.Value) api.Value { return written(runes.Times(a[0].Text, a[1].Int)) }},
		api.FExact:      {"tt", func(a []api.Value) api.Value { return truth(a[0].Text == a[1].Text) }},
		api.FCode:       {"t", func(a []api.Value) api.Value { return counted(runes.Code(a[0].Text)) }},
		api.FChar:       {"n", func(a []api.Value) api.Value { return written(runes.Char(a[0].Int)) }},
		api.FValue:      {"n", func(a []api.Value) api.Value { return a[0] }},
		api.FText:       {"t", func(a []api.Value) api.Value { return a[0] }},
		// What is no number, truth or text has 0 and the empty text where they have theirs; a number has no text, and a text no number.
		api.FN:         {"v", func(a []api.Value) api.Value { return number(a[0].Int) }},
		api.FT:         {"v", func(a []api.Value) api.Value { return text(a[0].Text) }},
		api.FNa:        {"", func([]api.Value) api.Value { return fault(api.ENA) }},
		api.FIsblank:   {do: func(a []api.Value) api.Value { return truth(a[0].Kind == api.VBlank) }},
		api.FIsnumber:  {do: func(a []api.Value) api.Value { return truth(a[0].Kind == api.VInt) }},
		api.FIstext:    {do: func(a []api.Value) api.Value { return truth(a[0].Kind == api.VText) }},
		api.FIslogical: {do: func(a []api.Value) api.Value { return truth(a[0].Kind == api.VBool) }},
		api.FIserror:   {do: func(a []api.Value) api.Value { return truth(a[0].Kind == api.VErr) }},
		api.FIsna:      {do: func(a []api.Value) api.Value { return truth(a[0] == fault(api.ENA)) }},
	}
}

// size gives a number without its sign.
func size(a []api.Value) api.Value {
	if a[0].Int < 0 {
		return fitting(whole.Sub(0, a[0].Int))
	}
	return a[0]
}

// factorial gives the product of the numbers from 1 on; that of those up to 20 is the last one of 64 bits.
func factorial(a []api.Value) api.Value {
	n := a[0].Int
	if n < 0 || n > 20 {
		return fault(api.ENum)
	}
	product := int64(1)
	for factor := int64(2); factor <= n; factor++ {
		product *= factor
	}
	return number(product)
}

// bitwise gives what has come of the bits of two numbers, if both are such as have bits alone, and no sign.
func bitwise(a []api.Value, n int64) api.Value {
	if a[0].Int < 0 || a[1].Int < 0 {
		return fault(api.ENum)
	}
	return number(n)
}

// clamp gives the number between two bounds that is nearest.
func clamp(a []api.Value) api.Value {
	n, low, high := a[0].Int, a[1].Int, a[2].Int
	if low > high {
		return fault(api.ENum)
	}
	return number(max(low, min(n, high)))
}

// find tells the place at which a text stands in another one.
func find(a []api.Value) api.Value {
	place, e := runes.Find(a[0].Text, a[1].Text, a[2].Int)
	return counted(int64(place), e)
}

// replace puts a text in the place of some runes of another one.
func replace(a []api.Value) api.Value {
	in, from, n, with := a[0].Text, a[1].Int, a[2].Int, a[3].Text
	out, e := runes.Mid(in, from, n)
	if e != api.OK {
		return fault(api.EValue)
	}
	// From is 1 or more here, so there is no error. What is behind is told by bytes, since from and n together may leave 64 bits.
	ahead, _ := runes.Left(in, from-1)
	return chained(ahead, with, in[len(ahead)+len(out):])
}
