package calc

import (
	"math/rand"
	"slices"
	"sync"
	"testing"

	"quadrille/api"
)

// asked is a call and what came of it.
type asked struct {
	f    int
	args []api.Value
	v    api.Value
	e    api.Errno
}

// someCalls gives calls of all functions, good ones and such as are refused, with lists that have spare room in which something stands.
func someCalls(t *testing.T) []asked {
	t.Helper()
	c := chance{rand.New(rand.NewSource(5))}
	var all []asked
	for _, r := range documentRows(t) {
		for range 40 {
			count := r.fewest + c.Intn(len(r.asks)-r.fewest+1)
			if c.Intn(10) == 0 {
				count = c.Intn(6)
			}
			room := make([]api.Value, count+3)
			for i := range room {
				room[i] = c.value()
			}
			all = append(all, asked{f: r.number, args: room[:count]})
		}
	}
	return all
}

func TestArgumentsAreNotChanged(t *testing.T) {
	for _, one := range someCalls(t) {
		room := one.args[:cap(one.args)]
		was := slices.Clone(room)
		_, _ = Call(one.f, one.args...)
		if !slices.Equal(room, was) {
			t.Errorf("P14.5: function %d of %s has changed its arguments, or what lies behind them", one.f, briefly(was[:len(one.args)]))
		}
	}
}

// TestArgumentsAreNotKept writes over the arguments behind a call, asks with what stands there then, and asks again with what stood there first.
func TestArgumentsAreNotKept(t *testing.T) {
	for _, one := range someCalls(t) {
		was := slices.Clone(one.args)
		v, e := Call(one.f, one.args...)
		for i := range one.args {
			one.args[i] = txt("written over")
		}
		_, _ = Call(one.f, one.args...)
		checkCall(t, "P14.5", one.f, was, v, e)
	}
}

// TestTheSameAgain asks all calls again in another order, and from several goroutines at a time.
func TestTheSameAgain(t *testing.T) {
	calls := someCalls(t)
	for i, one := range calls {
		calls[i].v, calls[i].e = Call(one.f, one.args...)
	}
	var all sync.WaitGroup
	for worker := range 8 {
		all.Go(func() {
			order := rand.New(rand.NewSource(int64(worker))).Perm(len(calls))
			for _, i := range order {
				one := calls[i]
				checkCall(t, "P14.5", one.f, one.args, one.v, one.e)
			}
		})
	}
	all.Wait()
}

// TestOperationsTheSameAgain does the same with operations.
func TestOperationsTheSameAgain(t *testing.T) {
	pool := manyValues()
	var all sync.WaitGroup
	for worker := range 4 {
		all.Go(func() {
			order := rand.New(rand.NewSource(int64(worker)))
			for range 20000 {
				x, y := pool[order.Intn(len(pool))], pool[order.Intn(len(pool))]
				un, bin := order.Intn(5), order.Intn(14)
				first, second := Un(un, x), Bin(bin, x, y)
				_ = Bin(order.Intn(14), y, x)
				checkUn(t, un, x, first)
				checkBin(t, bin, x, y, second)
			}
		})
	}
	all.Wait()
}
