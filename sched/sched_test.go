package sched

import (
	"math"
	"strings"
	"testing"

	"backstitch/api"
)

// stepper is a task that answers as a text says, letter by letter, and Done behind it; it notes each of its steps by its name.
type stepper struct {
	name string
	says string
	log  *string
}

func (x *stepper) step() int {
	*x.log += x.name
	if x.says == "" {
		return Done
	}
	c := x.says[0]
	x.says = x.says[1:]
	switch c {
	case 'w':
		return Wait
	case 'd':
		return Done
	case '0':
		return 0
	}
	return Again
}

// begun is a scheduler with tasks a, b, c .. that answer as the texts say, and where they note their steps.
func begun(t *testing.T, picks []uint8, says ...string) (*Sched, *string) {
	t.Helper()
	s, log := New(picks), new(string)
	for i, x := range says {
		if id, e := s.Go((&stepper{string(rune('a' + i)), x, log}).step); id != i || e != api.OK {
			t.Fatalf("Go = %d, %v, want %d", id, e, i)
		}
	}
	return s, log
}

// wantRun runs at most so many steps, and wants what is answered and what all steps so far were.
func wantRun(t *testing.T, s *Sched, log *string, most int, n int, e api.Errno, all string) {
	t.Helper()
	if gotN, gotE := s.Run(most); gotN != n || gotE != e || *log != all {
		t.Errorf("Run(%d) = %d, %v, steps %s; want %d, %v, steps %s", most, gotN, gotE, *log, n, e, all)
	}
}

// wantState wants who steps, who waits and how many are open.
func wantState(t *testing.T, s *Sched, now int, waiting string, open int) {
	t.Helper()
	if got := text(s.Now(), s.Waiting(), s.Open()); got != text(now, " ", waiting, " ", open) {
		t.Errorf("now, waiting, open: %s, want %d %s %d", got, now, waiting, open)
	}
}

// TestExample: two tasks of one step, picks 1: 1 steps first.
func TestExample(t *testing.T) {
	s, log := begun(t, picks(1), "", "")
	wantRun(t, s, log, 9, 2, api.OK, "ba")
}

// TestKinds: what the three answers are.
func TestKinds(t *testing.T) {
	if Again != 1 || Wait != 2 || Done != 3 {
		t.Errorf("Again, Wait, Done = %d, %d, %d", Again, Wait, Done)
	}
}

// TestPicks: written out by hand.
func TestPicks(t *testing.T) {
	for _, c := range []struct {
		picks []uint8
		says  string // of the tasks, with spaces between
		steps string
	}{
		{nil, "aa aa aa", "aaabbbccc"},
		{picks(), "aa aa aa", "aaabbbccc"},
		{picks(0), "aa aa aa", "aaabbbccc"},
		{picks(1), "aa aa aa", "bbbcccaaa"},
		{picks(2), "aa aa aa", "cccaaabbb"},
		{picks(3), "aa aa aa", "aaacccbbb"},
		{picks(0, 1), "aa aa", "ababab"},
		{picks(0, 1, 2), "aa aa aa", "abcabcacb"},
		{picks(2, 1, 0), "aa aa aa", "cbacbacba"},
		{picks(0, 1, 2), "d d d d", "acbd"},
		{picks(1, 0), "d d d d d", "badce"},
		{picks(255), "aaa aaa", "bbbbaaaa"},
		{picks(254), "aaa aaa", "aaaabbbb"},
		{picks(255, 2, 7), "a a a", "acbabc"},
		{picks(0, 0, 1), "aaaa aaaa", "aabaababbb"},
	} {
		s, log := begun(t, c.picks, strings.Fields(c.says)...)
		wantRun(t, s, log, api.MaxSteps, len(c.steps), api.OK, c.steps)
		wantState(t, s, -1, "[]", 0)
	}
}

// TestAnythingElse: what is none of the three answers is as good as Again.
func TestAnythingElse(t *testing.T) {
	for _, x := range ints(Again, 0, -1, -2, -3, 4, 5, 99, 1<<32|Wait, 1<<32|Done, 256|Wait, math.MinInt, math.MaxInt) {
		s := New(nil)
		c := &counting{answer: x}
		s.Go(c.step)
		if n, e := s.Run(5); n != 5 || e != api.ErrLimit || c.steps != 5 {
			t.Errorf("a task that answers %d: %d, %v, %d steps", x, n, e, c.steps)
		}
		wantState(t, s, -1, "[]", 1)
		c.answer = Done
		if n, e := s.Run(5); n != 1 || e != api.OK {
			t.Errorf("a task that answered %d, and is Done: %d, %v", x, n, e)
		}
	}
}

// TestGo: numbers from 0 on, also of those that are made when others are Done, and what is refused.
func TestGo(t *testing.T) {
	s, log := begun(t, nil, "", "w", "a")
	wantRun(t, s, log, 9, 4, api.ErrStuck, "abcc")
	for range 3 {
		if id, e := s.Go(nil); id != 0 || e != api.ErrArg {
			t.Errorf("Go(nil) = %d, %v", id, e)
		}
	}
	wantState(t, s, -1, "[1]", 1)
	for i := 3; i < api.MaxTasks; i++ {
		if id, e := s.Go((&stepper{"x", "", log}).step); id != i || e != api.OK {
			t.Fatalf("Go = %d, %v, want %d", id, e, i)
		}
		if n := s.Open(); n != i-1 {
			t.Fatalf("Open = %d, want %d", n, i-1)
		}
	}
	for range 3 {
		if id, e := s.Go((&stepper{"y", "", log}).step); id != 0 || e != api.ErrLimit {
			t.Errorf("Go past the limit = %d, %v", id, e)
		}
		if id, e := s.Go(nil); id != 0 || e != api.ErrArg {
			t.Errorf("Go(nil) past the limit = %d, %v", id, e)
		}
		if s.Wake(api.MaxTasks) {
			t.Error("a task that was refused is woken")
		}
	}
	wantState(t, s, -1, "[1]", api.MaxTasks-2)
	wantRun(t, s, log, 999, api.MaxTasks-3, api.ErrStuck, "abcc"+strings.Repeat("x", api.MaxTasks-3))
	s.Wake(1)
	wantRun(t, s, log, 999, 1, api.OK, *log+"b")
	if id, e := s.Go((&stepper{"y", "", log}).step); id != 0 || e != api.ErrLimit {
		t.Errorf("Go past the limit, when all are Done = %d, %v", id, e)
	}
}

// TestMost: how many steps, and which of the errors, up to the limit and one past it.
func TestMost(t *testing.T) {
	s, log := begun(t, nil, "aa", "w")
	wantRun(t, s, log, -1, 0, api.ErrArg, "")
	wantRun(t, s, log, math.MinInt, 0, api.ErrArg, "")
	wantRun(t, s, log, api.MaxSteps+1, 0, api.ErrArg, "")
	wantRun(t, s, log, math.MaxInt, 0, api.ErrArg, "")
	wantRun(t, s, log, 0, 0, api.ErrLimit, "")
	wantRun(t, s, log, 1, 1, api.ErrLimit, "a")
	wantRun(t, s, log, 2, 2, api.ErrLimit, "aaa")
	wantRun(t, s, log, 1, 1, api.ErrStuck, "aaab") // the last step that it may make: none can run, so it is not the limit
	wantRun(t, s, log, 0, 0, api.ErrStuck, "aaab")
	wantRun(t, s, log, api.MaxSteps, 0, api.ErrStuck, "aaab")
	wantRun(t, s, log, api.MaxSteps+1, 0, api.ErrArg, "aaab")
	s.Wake(1)
	wantRun(t, s, log, 0, 0, api.ErrLimit, "aaab")
	wantRun(t, s, log, 1, 1, api.OK, "aaabb")
	wantRun(t, s, log, 0, 0, api.OK, "aaabb")
	wantRun(t, s, log, api.MaxSteps, 0, api.OK, "aaabb")
	wantRun(t, s, log, -1, 0, api.ErrArg, "aaabb")

	s, log = begun(t, picks(7))
	wantRun(t, s, log, 0, 0, api.OK, "")
	wantRun(t, s, log, api.MaxSteps, 0, api.OK, "")
	wantRun(t, s, log, -1, 0, api.ErrArg, "")
	wantRun(t, s, log, api.MaxSteps+1, 0, api.ErrArg, "")
}

// TestStuck: none can run, and some are not Done; those that are woken go on.
func TestStuck(t *testing.T) {
	s, log := begun(t, picks(0, 1), "w", "ww", "")
	wantRun(t, s, log, 9, 3, api.ErrStuck, "acb")
	wantState(t, s, -1, "[0 1]", 2)
	if !s.Wake(1) {
		t.Error("Wake(1) is false")
	}
	wantState(t, s, -1, "[0]", 2)
	wantRun(t, s, log, 9, 1, api.ErrStuck, "acbb")
	wantState(t, s, -1, "[0 1]", 2)
	s.Wake(1)
	s.Wake(0)
	wantState(t, s, -1, "[]", 2)
	wantRun(t, s, log, 9, 2, api.OK, "acbbab")
	wantState(t, s, -1, "[]", 0)
}

// TestPicksOverRuns: steps are counted over all Runs, also those that ended with an error, and refused Runs count none.
func TestPicksOverRuns(t *testing.T) {
	says := []string{"aawaa", "aaaaaa", "awaaaa", "w"}
	for _, l := range [][]uint8{nil, picks(1), picks(0, 1), picks(3, 0, 2), picks(9, 8, 7, 6, 5, 4, 3), picks(0, 1, 2, 3, 4, 5, 6, 7, 8, 9, 10)} {
		whole, log := begun(t, l, says...)
		whole.Run(api.MaxSteps)
		ahead := *log
		whole.Wake(0)
		whole.Wake(2)
		whole.Run(api.MaxSteps)
		all := *log
		for part := 1; part <= len(ahead); part++ {
			s, log := begun(t, l, says...)
			for done := 0; done < len(ahead); done += part {
				s.Run(-1)
				s.Run(0)
				s.Run(part)
				s.Go(nil)
				s.Wake(-1)
			}
			wantRun(t, s, log, 0, 0, api.ErrStuck, ahead)
			s.Wake(2)
			s.Wake(0)
			wantRun(t, s, log, api.MaxSteps, len(all)-len(ahead), api.ErrStuck, all)
		}
	}
}

// TestFull: as many tasks as may be, and as many steps as one Run may make.
func TestFull(t *testing.T) {
	for _, l := range [][]uint8{nil, picks(127), picks(128, 255), picks(5, 200, 17)} {
		s := New(l)
		all := make([]*counting, api.MaxTasks)
		for i := range all {
			all[i] = &counting{answer: Again}
			s.Go(all[i].step)
		}
		want := make([]int, api.MaxTasks)
		for k := range api.MaxSteps {
			if len(l) == 0 {
				want[0]++
				continue
			}
			want[int(l[k%len(l)])%api.MaxTasks]++
		}
		if n, e := s.Run(api.MaxSteps); n != api.MaxSteps || e != api.ErrLimit {
			t.Errorf("picks %v: Run = %d, %v", l, n, e)
		}
		for i, c := range all {
			if c.steps != want[i] {
				t.Errorf("picks %v: task %d stepped %d times, want %d", l, i, c.steps, want[i])
			}
			c.answer = Done
		}
		if n, e := s.Run(api.MaxTasks); n != api.MaxTasks || e != api.OK {
			t.Errorf("picks %v: the end = %d, %v", l, n, e)
		}
	}
}

// TestDoneIsOver: a task that is Done steps no more, whoever wakes it.
func TestDoneIsOver(t *testing.T) {
	s := New(picks(0, 1))
	a, b := &counting{answer: Done}, &counting{answer: Again}
	s.Go(a.step)
	s.Go(b.step)
	s.Wake(0)
	for range 20 {
		s.Run(3)
		if s.Wake(0) {
			t.Fatal("a task that is Done is woken")
		}
	}
	if a.steps != 1 || b.steps != 59 {
		t.Errorf("%d and %d steps", a.steps, b.steps)
	}
	wantState(t, s, -1, "[]", 1)
}
