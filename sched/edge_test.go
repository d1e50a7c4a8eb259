package sched

import (
	"errors"
	"testing"

	"backstitch/api"
)

// TestNil: R7.
func TestNil(t *testing.T) {
	var s *Sched
	c := &counting{answer: Done}
	for range 2 {
		if id, e := s.Go(c.step); id != 0 || e != api.ErrArg {
			t.Errorf("Go = %d, %v", id, e)
		}
		if id, e := s.Go(nil); id != 0 || e != api.ErrArg {
			t.Errorf("Go(nil) = %d, %v", id, e)
		}
		for _, most := range ints(-1, 0, 1, api.MaxSteps, api.MaxSteps+1) {
			if n, e := s.Run(most); n != 0 || e != api.ErrArg {
				t.Errorf("Run(%d) = %d, %v", most, n, e)
			}
		}
		for _, id := range ints(-1, 0, 1) {
			if s.Wake(id) {
				t.Errorf("Wake(%d) is true", id)
			}
		}
		if s.Now() != 0 || len(s.Waiting()) != 0 || s.Open() != 0 {
			t.Errorf("Now, Waiting, Open = %d, %v, %d", s.Now(), s.Waiting(), s.Open())
		}
	}
	if c.steps != 0 {
		t.Error("it stepped")
	}
}

// TestNoTasks: a new scheduler.
func TestNoTasks(t *testing.T) {
	for _, l := range [][]uint8{nil, picks(), picks(3), picks(255, 0)} {
		s := New(l)
		wantState(t, s, -1, "[]", 0)
		if n, e := s.Run(api.MaxSteps); n != 0 || e != api.OK {
			t.Errorf("Run = %d, %v", n, e)
		}
		wantState(t, s, -1, "[]", 0)
	}
}

// TestRunWithin: refused within a step, whatever it is handed, and nothing changes; the step goes on.
func TestRunWithin(t *testing.T) {
	st := story{
		scripts: []script{
			{asking(Again, ask{runs, 0}, ask{runs, 5}, ask{runs, api.MaxSteps}, ask{runs, -1}, ask{runs, api.MaxSteps + 1}, ask{what: tells})},
			answers(Again),
		},
		first: 2,
		asks:  []ask{{runs, 2}, {runs, 99}},
	}
	want := " go0 ok go1 ok run2( a0: run0()0 argument run5()0 argument run1048576()0 argument run-1()0 argument run1048577()0 argument [0 [] 2]" +
		" b0:)2 limit [-1 [] 2] run99( a1: b1:)2 ok [-1 [] 0]"
	if got := st.told(New(picks(0, 1))); got != want {
		t.Errorf("got\n%s\nwant\n%s", got, want)
	}
	check(t, picks(0, 1), st)
}

// TestRunOfAnother: another scheduler's Run within a step is one as any other, but within that one's steps the first one's is refused.
func TestRunOfAnother(t *testing.T) {
	outer, inner := New(nil), New(nil)
	told := ""
	inner.Go(func() int {
		n, e := outer.Run(5)
		told += text(" in ", outer.Now(), inner.Now(), n, e)
		return Done
	})
	late := &counting{answer: Done}
	outer.Go(func() int {
		n, e := inner.Run(5)
		told += text(" out ", outer.Now(), inner.Now(), n, e)
		return Done
	})
	outer.Go(late.step)
	n, e := outer.Run(5)
	told += text(" end ", outer.Now(), inner.Now(), n, e, late.steps)
	if want := text(" in ", 0, 0, 0, api.ErrArg, " out ", 0, -1, 1, api.OK, " end ", -1, -1, 2, api.OK, 1); told != want {
		t.Errorf("%s, want %s", told, want)
	}
}

// TestStepsThatPanic: R1: the call does not, whatever it is that the step panics with; what such a step answers is something else.
func TestStepsThatPanic(t *testing.T) {
	var nobody *counting
	for i, f := range []func(){
		func() { panic("text") },
		func() { panic(Done) },
		func() { panic(Wait) },
		func() { panic(errors.New("an error")) },
		func() { panic(api.OK) },
		func() { panic(any(nil)) },
		func() { nobody.step() },
		func() { ints()[0]++ },
		func() { defer func() { panic("again") }(); panic("text") },
	} {
		s := New(picks(0, 1))
		calls := 0
		s.Go(func() int {
			if calls++; calls <= 3 {
				f()
			}
			return Done
		})
		other := &counting{answer: Wait}
		s.Go(other.step)
		if n, e := s.Run(4); n != 4 || e != api.ErrLimit || calls != 3 || other.steps != 1 {
			t.Errorf("panic %d: %d, %v, %d and %d steps", i, n, e, calls, other.steps)
		}
		wantState(t, s, -1, "[1]", 2)
		if n, e := s.Run(4); n != 1 || e != api.ErrStuck || calls != 4 {
			t.Errorf("panic %d, then Done: %d, %v, %d steps", i, n, e, calls)
		}
	}
}

// TestAskedAheadOfPanic: what a step asked of the scheduler ahead of its panic holds.
func TestAskedAheadOfPanic(t *testing.T) {
	st := story{
		scripts: []script{
			{asking(Wait), asking(Done)},
			{asking(Wait, ask{wakes, 0}, ask{wakes, 1}, ask{makes, 2}, ask{what: panics, x: 5}, ask{wakes, 2}), asking(Wait), asking(Again), asking(Wait)},
			answers(Again, Wait),
		},
		first: 2,
		asks:  []ask{{runs, 2}, {runs, 99}},
	}
	want := " go0 ok go1 ok run2( a0: b0: wake0 true wake1 true go2 ok)2 limit [-1 [] 3]" +
		" run99( a1: b1: b2: b3: c0: c1:)6 stuck [-1 [1 2] 2]"
	if got := st.told(New(nil)); got != want {
		t.Errorf("got\n%s\nwant\n%s", got, want)
	}
	for _, l := range [][]uint8{nil, picks(1), picks(2, 1), picks(0, 1, 2)} {
		check(t, l, st)
	}
}

// TestRefusedChangesNothing: R3: between any two steps all is refused that can be, and the story stays the same.
func TestRefusedChangesNothing(t *testing.T) {
	for _, l := range [][]uint8{nil, picks(1), picks(2, 0, 1), picks(7, 3, 1, 2, 9)} {
		plainly, log := begun(t, l, "aaw", "wa", "awaa", "d")
		n, _ := plainly.Run(99)
		s, refused := begun(t, l, "aaw", "wa", "awaa", "d")
		for range n {
			state := text(s.Now(), s.Waiting(), s.Open())
			for range 3 {
				s.Go(nil)
				s.Run(-1)
				s.Run(api.MaxSteps + 1)
				s.Run(0)
				s.Wake(-1)
				s.Wake(4)
			}
			if now := text(s.Now(), s.Waiting(), s.Open()); now != state {
				t.Errorf("%s became %s", state, now)
			}
			s.Run(1)
		}
		if *log != *refused || len(*log) != n {
			t.Errorf("picks %v: %s, want %s", l, *refused, *log)
		}
		if id, e := s.Go(func() int { return Done }); id != 4 || e != api.OK {
			t.Errorf("the next task is %d, %v", id, e)
		}
	}
}

// TestOneStepOfManyTasks: tasks may be of the same step; each is a task of its own.
func TestOneStepOfManyTasks(t *testing.T) {
	s := New(nil)
	c := &counting{answer: Wait}
	for range 10 {
		s.Go(c.step)
	}
	if n, e := s.Run(99); n != 10 || e != api.ErrStuck || c.steps != 10 {
		t.Errorf("%d, %v, %d steps", n, e, c.steps)
	}
	c.answer = Done
	s.Wake(4)
	s.Wake(7)
	if n, e := s.Run(99); n != 2 || e != api.ErrStuck || c.steps != 12 {
		t.Errorf("%d, %v, %d steps", n, e, c.steps)
	}
	wantState(t, s, -1, "[0 1 2 3 5 6 8 9]", 8)
}

// TestTwoSchedulers: neither hears of what the other one is asked.
func TestTwoSchedulers(t *testing.T) {
	a, logA := begun(t, picks(0, 1), "aw", "aa")
	b, logB := begun(t, picks(1), "a", "w", "w")
	wantRun(t, a, logA, 3, 3, api.ErrLimit, "aba")
	wantRun(t, b, logB, 9, 4, api.ErrStuck, "bcaa")
	a.Wake(0)
	b.Wake(2)
	wantState(t, a, -1, "[]", 2)
	wantState(t, b, -1, "[1]", 2)
	wantRun(t, b, logB, 9, 1, api.ErrStuck, "bcaac")
	wantRun(t, a, logA, 9, 3, api.OK, "ababab")
}
