package mach

import (
	"slices"

	"quadrille/api"
	"quadrille/value"
)

// items is the stack, the last item being on top. That what is taken lies there, and is a value where one is asked for, is known of all code that may be.
type items []api.Arg

func fault(e int) api.Value { return api.Value{Kind: api.VErr, Int: int64(e)} }

// isError tells whether an item is an error.
func isError(item api.Arg) bool { return !item.IsArea && item.Value.Kind == api.VErr }

func (s *items) put(item api.Arg) { *s = append(*s, item) }

func (s *items) lay(v api.Value) { s.put(api.Arg{Value: v}) }

// drop takes so many items away. Where they lay nothing of them stays.
func (s *items) drop(count int) {
	low := len(*s) - count
	clear((*s)[low:])
	*s = (*s)[:low]
}

// take takes so many items, the lowest of them first.
func (s *items) take(count int) []api.Arg {
	taken := slices.Clone((*s)[len(*s)-count:])
	s.drop(count)
	return taken
}

func (s *items) item() api.Arg {
	top := (*s)[len(*s)-1]
	s.drop(1)
	return top
}

func (s *items) value() api.Value { return s.item().Value }

// values takes so many values, the lowest of them first.
func (s *items) values(count int) []api.Value {
	all := make([]api.Value, count)
	for i, item := range s.take(count) {
		all[i] = item.Value
	}
	return all
}

// ifError does IErr, and tells which instruction comes next.
func (s *items) ifError(in api.Ins, next int) int {
	top := s.item()
	if isError(top) {
		s.drop(in.B)
		next = in.A
	}
	s.put(top)
	return next
}

// ifFalse does IIf likewise.
func (s *items) ifFalse(in api.Ins, next int) int {
	yes, bad := value.Truth(s.value())
	if bad != 0 {
		s.lay(fault(bad))
		return in.B
	}
	if !yes {
		return in.A
	}
	return next
}

// ifGood does IOk likewise.
func (s *items) ifGood(in api.Ins, next int) int {
	top := s.item()
	if isError(top) && (in.B == 0 || top.Value.Int == api.ENA) {
		return next
	}
	s.put(top)
	return in.A
}

// chosen does IChoose likewise.
func (s *items) chosen(in api.Ins) int {
	n, bad := value.Number(s.value())
	if bad == 0 && (n < 1 || n > int64(len(in.T))) {
		bad = api.EValue
	}
	if bad != 0 {
		s.lay(fault(bad))
		return in.A
	}
	return in.T[n-1]
}

// ifOther does IMatch likewise.
func (s *items) ifOther(in api.Ins, next int) int {
	upper, lower := s.value(), s.value()
	if value.Compare(lower, upper) == 0 {
		return next
	}
	s.lay(lower)
	return in.A
}

// one does IOne up to the place that is wanted; false: none is, and an error is laid.
func (s *items) one() (api.Spot, bool) {
	item := s.item()
	if isError(item) {
		s.put(item)
		return api.Spot{}, false
	}
	if rows, cols := size(item.Area); rows != 1 || cols != 1 {
		s.lay(fault(api.EValue))
		return api.Spot{}, false
	}
	return api.Spot{Row: item.Area.Top, Col: item.Area.Left}, true
}
