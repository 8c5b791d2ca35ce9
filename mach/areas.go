package mach

import (
	"quadrille/api"
	"quadrille/area"
	"quadrille/spot"
	"quadrille/value"
)

func ofArea(top, left, bottom, right int) api.Arg {
	return api.Arg{IsArea: true, Area: api.Area{Top: top, Left: left, Bottom: bottom, Right: right}}
}

func noArea() api.Arg { return api.Arg{Value: fault(api.ERef)} }

// size tells how many rows and columns an area has.
func size(a api.Area) (int, int) { return a.Bottom - a.Top + 1, a.Right - a.Left + 1 }

// measured gives what a function of the class place tells of an area; an error stays.
func measured(f int, item api.Arg) api.Arg {
	if isError(item) {
		return item
	}
	n, cols := size(item.Area)
	switch f {
	case api.FRow:
		n = item.Area.Top + 1
	case api.FColumn:
		n = item.Area.Left + 1
	case api.FColumns:
		n = cols
	}
	return api.Arg{Value: api.Value{Kind: api.VInt, Int: int64(n)}}
}

// spelt gives the area that a value spells as a text.
func spelt(v api.Value) api.Arg {
	s, bad := value.AsText(v)
	if bad != 0 {
		return api.Arg{Value: fault(bad)}
	}
	a, e := spot.ReadArea(s)
	if e != api.OK {
		return noArea()
	}
	return api.Arg{IsArea: true, Area: a}
}

// derived gives what is made of an area and of values as numbers. All errors that stand there come ahead of those that only turn up when the values are looked at.
func derived(taken []api.Arg, from func(a api.Area, numbers []int64) api.Arg) api.Arg {
	for _, item := range taken {
		if isError(item) {
			return item
		}
	}
	var numbers []int64
	for _, item := range taken[1:] {
		n, bad := value.Number(item.Value)
		if bad != 0 {
			return api.Arg{Value: fault(bad)}
		}
		numbers = append(numbers, n)
	}
	return from(taken[0].Area, numbers)
}

// shifted gives OFFSET's area.
func shifted(a api.Area, numbers []int64) api.Arg {
	rows, cols := size(a)
	h, w := numberAt(numbers, 2, rows), numberAt(numbers, 3, cols)
	first, e := area.Move(api.Area{Top: a.Top, Left: a.Left, Bottom: a.Top, Right: a.Left}, numbers[0], numbers[1])
	// Of more rows or columns every area is too great; they are not added, since the sum could leave 64 bits.
	if e != api.OK || h < 1 || w < 1 || h > api.MaxArea || w > api.MaxArea {
		return noArea()
	}
	first.Bottom += int(h) - 1
	first.Right += int(w) - 1
	if _, e := area.Size(first); e != api.OK {
		return noArea()
	}
	return api.Arg{IsArea: true, Area: first}
}

// picked gives INDEX's area, which is one place.
func picked(a api.Area, numbers []int64) api.Arg {
	rows, cols := size(a)
	i, j := numbers[0], numberAt(numbers, 1, 1)
	if i < 1 || i > int64(rows) || j < 1 || j > int64(cols) {
		return noArea()
	}
	row, col := a.Top+int(i)-1, a.Left+int(j)-1
	return ofArea(row, col, row, col)
}

// numberAt gives the number that stands there, or another one where none does.
func numberAt(numbers []int64, at int, other int) int64 {
	if at < len(numbers) {
		return numbers[at]
	}
	return int64(other)
}
