package lock

import (
	"fmt"
	"slices"
	"strings"
	"testing"

	"backstitch/api"
	"backstitch/sched"
)

// ask is something that is asked: of one of two locks for an id, or of their scheduler.
type ask struct{ what, lock, id int }

const (
	takes = iota
	leaves
	runs // at most id steps
)

// player asks two locks and their scheduler, and notes what is answered.
type player struct {
	s     *sched.Sched
	locks [2]locker
	log   strings.Builder
}

func (p *player) ask(a ask) {
	l := p.locks[a.lock]
	switch a.what {
	case takes:
		fmt.Fprint(&p.log, " take", a.lock, a.id, l.Take(a.id))
	case leaves:
		fmt.Fprint(&p.log, " leave", a.lock, a.id, l.Leave(a.id))
	case runs:
		n, e := p.s.Run(a.id)
		fmt.Fprint(&p.log, " run", a.id, n, e)
	}
	for _, l := range p.locks {
		fmt.Fprint(&p.log, " ", l.Owner(), l.Queue())
	}
	fmt.Fprint(&p.log, p.s.Waiting())
}

// turn is what a step asks, and what it answers then.
type turn struct {
	asks   []ask
	answer int
}

// actor is a task that does its turns, one after another, and is Done behind them.
type actor struct {
	p     *player
	turns []turn
}

func (x *actor) step() int {
	fmt.Fprint(&x.p.log, " by", x.p.s.Now())
	if len(x.turns) == 0 {
		return sched.Done
	}
	next := x.turns[0]
	x.turns = x.turns[1:]
	for _, a := range next.asks {
		x.p.ask(a)
	}
	return next.answer
}

// told plays a story: tasks that do their turns, and what is asked from outside; it tells all that is heard.
func told(picks []uint8, make func(*sched.Sched) locker, tasks [][]turn, asks []ask) string {
	s := sched.New(picks)
	p := &player{s: s, locks: [2]locker{make(s), make(s)}}
	for _, turns := range tasks {
		s.Go((&actor{p, turns}).step)
	}
	for _, a := range asks {
		p.ask(a)
	}
	return p.log.String()
}

// check wants that a lock and the chapter's sentences are heard alike.
func check(t *testing.T, picks []uint8, tasks [][]turn, asks []ask) {
	t.Helper()
	got, want := told(picks, newReal, tasks, asks), told(picks, newPlain, tasks, asks)
	if got != want {
		t.Fatalf("picks %v, tasks %v, asks %v:\n%s\nwant\n%s", picks, tasks, asks, got, want)
	}
}

// TestShortStories: all that may be asked for three ids in four calls, the tasks of which wait, or are let run between.
func TestShortStories(t *testing.T) {
	kinds := []ask{{runs, 0, api.MaxSteps}}
	for id := range 3 {
		kinds = append(kinds, ask{takes, 0, id}, ask{leaves, 0, id})
	}
	waits := slices.Repeat([][]turn{slices.Repeat([]turn{{nil, sched.Wait}}, 9)}, 2)
	for number := range 7 * 7 * 7 * 7 {
		asks := []ask{{runs, 0, 9}, {takes, 0, 0}}
		for range 4 {
			asks = append(asks, kinds[number%7])
			number /= 7
		}
		check(t, nil, waits, append(asks, ask{runs, 0, 9}))
	}
}

// TestLongStories: many calls for many ids, without tasks, by a list of ids that grows and shrinks.
func TestLongStories(t *testing.T) {
	s := seeds(1)
	for range 200 {
		real, want := newReal(sched.New(nil)), newPlain(sched.New(nil))
		ids, takings := 1+s.below(12), 1+s.below(9)
		for range 300 {
			id := s.below(ids) - 2
			if s.below(10) < takings {
				if real.Take(id) != want.Take(id) {
					t.Fatalf("Take(%d) is not %v", id, want.Take(id))
				}
			} else {
				if s.below(2) == 0 {
					id = want.Owner()
				}
				if real.Leave(id) != want.Leave(id) {
					t.Fatalf("Leave(%d) differs", id)
				}
			}
			wantLock(t, real, want.Owner(), want.Queue()...)
		}
	}
}

func (s *seeds) someAsks(most, ids int) []ask {
	var l []ask
	for range s.below(most + 1) {
		l = append(l, ask{s.of(ints(takes, takes, leaves, leaves, runs)), s.below(2), s.below(ids+3) - 1})
	}
	return l
}

func (s *seeds) someTurns(ids int) []turn {
	l := make([]turn, s.below(7))
	for i := range l {
		l[i] = turn{s.someAsks(4, ids), s.of(ints(sched.Again, sched.Wait, sched.Wait, sched.Wait, 0, sched.Done))}
	}
	return l
}

// TestManyStories: tasks of a scheduler that ask two locks for themselves and for others, between what is asked from outside.
func TestManyStories(t *testing.T) {
	s := seeds(7)
	for range 2000 {
		tasks := make([][]turn, 1+s.below(6))
		for i := range tasks {
			tasks[i] = s.someTurns(len(tasks))
		}
		check(t, s.somePicks(), tasks, append(s.someAsks(25, len(tasks)), ask{runs, 0, 200}))
	}
}

// TestSameAgain: R5: the same calls have the same answers.
func TestSameAgain(t *testing.T) {
	s := seeds(8)
	for range 200 {
		tasks := make([][]turn, 1+s.below(5))
		for i := range tasks {
			tasks[i] = s.someTurns(len(tasks))
		}
		p, asks := s.somePicks(), append(s.someAsks(25, len(tasks)), ask{runs, 0, 200})
		first := told(p, newReal, tasks, asks)
		for range 3 {
			if again := told(p, newReal, tasks, asks); again != first {
				t.Fatalf("picks %v, tasks %v:\n%s\nthen\n%s", p, tasks, first, again)
			}
		}
	}
}
