package sched

import (
	"math"
	"testing"

	"backstitch/api"
)

// TestWakeAnswers: no such task, one that can run, one that waits, one that is Done.
func TestWakeAnswers(t *testing.T) {
	s, log := begun(t, nil, "", "w", "aaaaaa")
	wantRun(t, s, log, 3, 3, api.ErrLimit, "abc")
	for _, c := range []struct {
		id   int
		want bool
	}{
		{-1, false}, {math.MinInt, false}, {3, false}, {api.MaxTasks, false}, {math.MaxInt, false}, {1 << 32, false}, {1<<32 + 1, false},
		{0, false}, {1, true}, {2, true}, {1, true}, {2, true}, {0, false},
	} {
		if got := s.Wake(c.id); got != c.want {
			t.Errorf("Wake(%d) = %v", c.id, got)
		}
	}
	wantState(t, s, -1, "[]", 2)
	if New(nil).Wake(0) {
		t.Error("a scheduler without tasks wakes one")
	}
}

// TestNextWaitIsPassedOver: once, however often it was woken, and not before it waits.
func TestNextWaitIsPassedOver(t *testing.T) {
	for _, c := range []struct {
		says  string
		wakes int
		steps int // till it is stuck; 0: it ends
		all   string
	}{
		{"w", 0, 1, "aa"},
		{"w", 1, 0, "aa"},
		{"w", 5, 0, "aa"},
		{"ww", 0, 1, "aaa"},
		{"ww", 1, 2, "aaa"},
		{"ww", 9, 2, "aaa"},
		{"www", 2, 2, "aaa"},
		{"aaw", 1, 0, "aaaa"},
		{"aaw", 0, 3, "aaaa"},
		{"awaaw", 1, 5, "aaaaaa"},
		{"0w0w", 3, 4, "aaaaa"},
		{"d", 1, 0, "a"},
	} {
		s, log := begun(t, nil, c.says)
		for range c.wakes {
			if !s.Wake(0) {
				t.Errorf("%s: Wake is false", c.says)
			}
		}
		if c.steps == 0 {
			wantRun(t, s, log, 99, len(c.all), api.OK, c.all)
			continue
		}
		wantRun(t, s, log, 99, c.steps, api.ErrStuck, c.all[:c.steps])
		wantState(t, s, -1, "[0]", 1)
	}
}

// TestWokenWhileItWaits: it can run, and no Wait is passed over; woken once more, the next one is.
func TestWokenWhileItWaits(t *testing.T) {
	s, log := begun(t, nil, "wwwwwa")
	wantRun(t, s, log, 9, 1, api.ErrStuck, "a")
	s.Wake(0)
	wantRun(t, s, log, 9, 1, api.ErrStuck, "aa")
	s.Wake(0)
	s.Wake(0)
	wantRun(t, s, log, 9, 2, api.ErrStuck, "aaaa")
	s.Wake(0)
	s.Wake(0)
	s.Wake(0)
	wantRun(t, s, log, 1, 1, api.ErrLimit, "aaaaa") // this Wait was passed over
	s.Wake(0)
	wantRun(t, s, log, 9, 2, api.OK, "aaaaaaa")
}

// TestWokenInItsOwnStep: the Wait that this very step answers is passed over.
func TestWokenInItsOwnStep(t *testing.T) {
	for _, c := range []struct {
		l    script
		n    int
		e    api.Errno
		open int
	}{
		{script{asking(Wait, ask{wakes, 0})}, 2, api.OK, 0},
		{script{asking(Wait, ask{wakes, 0}, ask{wakes, 0}), asking(Wait)}, 2, api.ErrStuck, 1},
		{script{asking(Again, ask{wakes, 0}), asking(Again), asking(Wait)}, 4, api.OK, 0},
		{script{asking(Again, ask{wakes, 0}), asking(Wait, ask{wakes, 0}), asking(Wait)}, 3, api.ErrStuck, 1},
		{script{asking(Wait, ask{wakes, 1}, ask{wakes, -1})}, 1, api.ErrStuck, 1},
		{script{asking(Done, ask{wakes, 0})}, 1, api.OK, 0},
		{script{asking(77, ask{wakes, 0}), asking(Wait)}, 3, api.OK, 0},
	} {
		s := New(nil)
		p := &player{s: s, scripts: []script{c.l}}
		p.ask(ask{makes, 0})
		if n, e := s.Run(99); n != c.n || e != c.e || s.Open() != c.open {
			t.Errorf("%v: %d, %v, %d open; want %d, %v, %d", c.l, n, e, s.Open(), c.n, c.e, c.open)
		}
	}
}

// TestSeenFromWithin: what a step is told, of itself and of the others, and of a task that it makes.
func TestSeenFromWithin(t *testing.T) {
	tell := ask{what: tells}
	st := story{
		scripts: []script{
			{asking(Wait, tell), asking(Done, tell)},
			{asking(Again, tell, ask{wakes, 0}, tell, ask{makes, 2}, tell, ask{wakes, 2}), asking(Done, tell)},
			{asking(Wait, tell), asking(Wait, tell), asking(Done, tell)},
		},
		first: 2,
		asks:  []ask{{runs, 99}, {wakes, 2}, {runs, 99}},
	}
	want := " go0 ok go1 ok" +
		" run99( a0: [0 [] 2]" +
		" b0: [1 [0] 2] wake0 true [1 [] 2] go2 ok [1 [] 3] wake2 true" +
		" a1: [0 [] 3] b1: [1 [] 2] c0: [2 [] 1] c1: [2 [] 1])6 stuck [-1 [2] 1]" +
		" wake2 true [-1 [] 1] run99( c2: [2 [] 1])1 ok [-1 [] 0]"
	if got := st.told(New(nil)); got != want {
		t.Errorf("got\n%s\nwant\n%s", got, want)
	}
	check(t, nil, st)
}

// TestMadeWhileRunning: a task that a step makes can run from then on, as one of those that the next pick is taken of.
func TestMadeWhileRunning(t *testing.T) {
	st := story{
		scripts: []script{
			{asking(Again, ask{makes, 1}, ask{makes, 1}, ask{what: refuse})},
			answers(Again, Again),
		},
		first: 1,
		asks:  []ask{{runs, 1}, {runs, 99}},
	}
	for _, c := range []struct {
		picks []uint8
		want  string
	}{
		{nil, " a1: b0: b1: b2: c0: c1: c2:"},
		{picks(2), " c0: c1: c2: a1: b0: b1: b2:"},
		{picks(0, 1), " b0: a1: c0: b1: c1: b2: c2:"},
	} {
		want := " go0 ok run1( a0: go1 ok go2 ok go?0 argument)1 limit [-1 [] 3] run99(" + c.want + ")7 ok [-1 [] 0]"
		if got := st.told(New(c.picks)); got != want {
			t.Errorf("picks %v: got\n%s\nwant\n%s", c.picks, got, want)
		}
	}
}

// TestMadeWithin: as many as may be made by steps, each by the one ahead; the list of tasks grows under those that step.
func TestMadeWithin(t *testing.T) {
	for _, answer := range ints(Again, Wait, Done) {
		s := New(picks(255))
		var ids []int
		var last api.Errno
		var breeder func() func() int
		breeder = func() func() int {
			steps := 0
			return func() int {
				if steps++; steps > 1 {
					return Done
				}
				id, e := s.Go(breeder())
				if e == api.OK {
					ids = append(ids, id)
				} else {
					last = e
				}
				return answer
			}
		}
		s.Go(breeder())
		s.Run(api.MaxSteps)
		for id := range api.MaxTasks {
			s.Wake(id)
		}
		s.Run(api.MaxSteps)
		wantState(t, s, -1, "[]", 0)
		if len(ids) != api.MaxTasks-1 || last != api.ErrLimit {
			t.Errorf("answer %d: %d were made, the last is %v", answer, len(ids), last)
		}
		for i, id := range ids {
			if id != i+1 {
				t.Errorf("answer %d: task %d has number %d", answer, i+1, id)
			}
		}
	}
}

// TestWaitingByNumber: whoever waits first, they are told by number.
func TestWaitingByNumber(t *testing.T) {
	s, log := begun(t, picks(4, 2, 0), "w", "w", "w", "w", "w")
	wantRun(t, s, log, 1, 1, api.ErrLimit, "e")
	wantState(t, s, -1, "[4]", 5)
	wantRun(t, s, log, 1, 1, api.ErrLimit, "ec")
	wantState(t, s, -1, "[2 4]", 5)
	wantRun(t, s, log, 1, 1, api.ErrLimit, "eca")
	wantState(t, s, -1, "[0 2 4]", 5)
	wantRun(t, s, log, 9, 2, api.ErrStuck, "ecabd")
	wantState(t, s, -1, "[0 1 2 3 4]", 5)
	s.Wake(3)
	s.Wake(0)
	wantState(t, s, -1, "[1 2 4]", 5)
}

// TestAwokenByNumber: whoever is woken first, picks are taken of those that can run by number.
func TestAwokenByNumber(t *testing.T) {
	for _, order := range [][]int{{0, 1, 2, 3}, {3, 2, 1, 0}, {2, 0, 3, 1}, {1, 3, 0, 2}} {
		s, log := begun(t, picks(1), "w", "w", "w", "w")
		wantRun(t, s, log, 9, 4, api.ErrStuck, "bcda")
		for _, id := range order {
			s.Wake(id)
		}
		wantRun(t, s, log, 9, 4, api.OK, "bcdabcda")
	}
}

// cell is what two tasks hand numbers on by: one fills it, the other one empties it, and each wakes the other.
type cell struct {
	s              *Sched
	maker, taker   int
	full           bool
	x, next, until int
	got            []int
}

func (c *cell) fill() int {
	switch {
	case c.next == c.until:
		return Done
	case c.full:
		return Wait
	}
	c.x, c.full = c.next, true
	c.next++
	c.s.Wake(c.taker)
	return Again
}

func (c *cell) empty() int {
	switch {
	case len(c.got) == c.until:
		return Done
	case !c.full:
		return Wait
	}
	c.got, c.full = append(c.got, c.x), false
	c.s.Wake(c.maker)
	return Again
}

// TestHandedOn: no number is lost and nobody waits for ever, whatever picks.
func TestHandedOn(t *testing.T) {
	for seed := range 300 {
		r := seeds(seed)
		l := make([]uint8, r.below(9))
		for i := range l {
			l[i] = uint8(r.below(256))
		}
		s := New(l)
		c := &cell{s: s, until: 20}
		c.taker, _ = s.Go(c.empty)
		c.maker, _ = s.Go(c.fill)
		n, e := s.Run(1000)
		if e != api.OK || n < 42 || n > 200 {
			t.Errorf("picks %v: %d, %v", l, n, e)
		}
		for i, x := range c.got {
			if x != i || len(c.got) != 20 {
				t.Fatalf("picks %v: %v", l, c.got)
			}
		}
	}
}
