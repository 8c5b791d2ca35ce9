package fold

import (
	"math/rand"
	"slices"
	"sync"
	"testing"

	"quadrille/api"
)

// story is a call, what is handed in to it, and what it ends with; its list has spare room in which something stands.
type story struct {
	f     int
	args  []api.Arg
	hands []handed
	end   api.Value
}

// someStories gives calls of all functions.
func someStories() []story {
	c := newChance(5)
	var all []story
	for _, r := range walking() {
		for range 60 {
			many := r.fewest + c.Intn(3)
			if r.most > 0 {
				many = r.fewest + c.Intn(r.most-r.fewest+1)
			}
			room := make([]api.Arg, many+3)
			for i := range room {
				room[i] = c.arg()
			}
			s := story{f: r.f, args: room[:many]}
			s.hands, s.end = modelled(s.f, s.args, c.value)
			all = append(all, s)
		}
	}
	return all
}

// tell goes through a story from where it stands, with something done ahead of each step.
func (s story) tell(t *testing.T, w *Fold, ahead func()) {
	t.Helper()
	for i, h := range s.hands {
		ahead()
		if at, some := w.Next(); at != h.at || !some {
			t.Errorf("P15.5: %s behind %d values wants %v, %t; want %v", called(s.f, s.args), i, at, some, h.at)
			return
		}
		if e := w.Give(h.v); e != api.OK {
			t.Errorf("P15.5: %s behind %d values: %d", called(s.f, s.args), i, e)
			return
		}
	}
	ahead()
	if v, over := w.End(); v != s.end || !over {
		t.Errorf("P15.5: %s ends with %s, %t; want %s", called(s.f, s.args), brief(v), over, brief(s.end))
	}
}

func TestArgumentsAreNotChanged(t *testing.T) {
	for _, s := range someStories() {
		room := s.args[:cap(s.args)]
		was := slices.Clone(room)
		w, _ := Begin(s.f, s.args...)
		s.tell(t, w, func() {})
		if !slices.Equal(room, was) {
			t.Errorf("P15.5: %s has changed its arguments, or what lies behind them", called(s.f, was[:len(s.args)]))
		}
	}
}

// TestArgumentsAreNotKept writes over the arguments, and what lies behind them, while the function walks.
func TestArgumentsAreNotKept(t *testing.T) {
	c := newChance(6)
	for _, s := range someStories() {
		w, _ := Begin(s.f, s.args...)
		s.tell(t, w, func() {
			room := s.args[:cap(s.args)]
			for i := range room {
				room[i] = c.arg()
			}
		})
	}
}

// TestRefusedListsAreNotChanged has lists whose last argument may not be.
func TestRefusedListsAreNotChanged(t *testing.T) {
	for _, s := range someStories() {
		room := s.args[:cap(s.args)]
		s.args[len(s.args)-1] = val(bad(api.ECycle))
		was := slices.Clone(room)
		refused(t, s.f, s.args, api.ErrValue)
		if !slices.Equal(room, was) {
			t.Errorf("P15.5: %s has changed its arguments, or what lies behind them", called(s.f, was[:len(s.args)]))
		}
	}
}

// TestAskingChangesNothing asks over and over, and hands in what is refused, ahead of each step.
func TestAskingChangesNothing(t *testing.T) {
	for _, s := range someStories() {
		w, _ := Begin(s.f, s.args...)
		s.tell(t, w, func() {
			at, some := w.Next()
			v, over := w.End()
			if some == over {
				t.Errorf("P15.4: %s wants something: %t, and has ended: %t", called(s.f, s.args), some, over)
			}
			for range 3 {
				e := w.Give(api.Value{Kind: 9})
				if want := map[bool]api.Errno{true: api.ErrValue, false: api.ErrStill}[some]; e != want {
					t.Errorf("P15.3: %s, given what may not be: %d, want %d", called(s.f, s.args), e, want)
				}
				if v2, over2 := w.End(); v2 != v || over2 != over {
					t.Errorf("P15.4: %s: %s, %t, then %s, %t", called(s.f, s.args), brief(v), over, brief(v2), over2)
				}
				if at2, some2 := w.Next(); at2 != at || some2 != some {
					t.Errorf("P15.2: %s: %v, %t, then %v, %t", called(s.f, s.args), at, some, at2, some2)
				}
			}
		})
	}
}

// TestFoldsKnowNothingOfEachOther has two of one call, and one of each other story, that go on by turns, and hands other values to the second.
func TestFoldsKnowNothingOfEachOther(t *testing.T) {
	c := newChance(7)
	stories := someStories()
	for _, s := range stories {
		w, _ := Begin(s.f, s.args...)
		twin, _ := Begin(s.f, s.args...)
		o := stories[c.Intn(len(stories))]
		other, _ := Begin(o.f, o.args...)
		s.tell(t, w, func() {
			_ = twin.Give(c.value())
			_ = other.Give(c.value())
			_, _ = Begin(o.f, o.args...)
		})
	}
}

// TestManyFoldsByTurns begins all of them ahead of the first step.
func TestManyFoldsByTurns(t *testing.T) {
	stories := someStories()
	begun := make([]*Fold, len(stories))
	for i, s := range stories {
		begun[i], _ = Begin(s.f, s.args...)
	}
	for step := 0; ; step++ {
		some := false
		for i, s := range stories {
			if step >= len(s.hands) {
				continue
			}
			some = true
			if at, wants := begun[i].Next(); at != s.hands[step].at || !wants {
				t.Errorf("P15.5: %s behind %d values wants %v, %t", called(s.f, s.args), step, at, wants)
			}
			_ = begun[i].Give(s.hands[step].v)
		}
		if !some {
			break
		}
	}
	for i, s := range stories {
		if v, over := begun[i].End(); v != s.end || !over {
			t.Errorf("P15.5: %s ends with %s, %t; want %s", called(s.f, s.args), brief(v), over, brief(s.end))
		}
	}
}

// TestTheSameAgain goes through all stories from several goroutines at a time, each in an order of its own.
func TestTheSameAgain(t *testing.T) {
	stories := someStories()
	var all sync.WaitGroup
	for worker := range 8 {
		all.Go(func() {
			for _, i := range rand.New(rand.NewSource(int64(worker))).Perm(len(stories)) {
				s := stories[i]
				w, _ := Begin(s.f, s.args...)
				s.tell(t, w, func() {})
			}
		})
	}
	all.Wait()
}
