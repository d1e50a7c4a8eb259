package lock

import (
	"fmt"
	"slices"
	"testing"

	"backstitch/api"
	"backstitch/sched"
)

func ints(l ...int) []int { return l }

func picks(l ...uint8) []uint8 { return l }

func text(l ...any) string { return fmt.Sprint(l...) }

// locker is what a Lock and a plain one both are.
type locker interface {
	Take(id int) bool
	Leave(id int) bool
	Owner() int
	Queue() []int
}

// plain is the chapter's sentences spelled out: one list, in which the first one has the lock and the others stand behind.
type plain struct {
	s   *sched.Sched
	all []int
}

func (p *plain) Take(id int) bool {
	if !slices.Contains(p.all, id) {
		p.all = append(p.all, id)
	}
	return p.all[0] == id
}

func (p *plain) Leave(id int) bool {
	if len(p.all) == 0 || p.all[0] != id {
		return false
	}
	p.all = slices.Clone(p.all[1:])
	if len(p.all) > 0 {
		p.s.Wake(p.all[0])
	}
	return true
}

func (p *plain) Owner() int {
	if len(p.all) == 0 {
		return -1
	}
	return p.all[0]
}

func (p *plain) Queue() []int {
	if len(p.all) == 0 {
		return nil
	}
	return slices.Clone(p.all[1:])
}

// newPlain and newReal make either kind.
func newPlain(s *sched.Sched) locker { return &plain{s: s} }

func newReal(s *sched.Sched) locker { return New(s) }

// wantLock wants whose the lock is, and who stands in its queue.
func wantLock(t *testing.T, l locker, owner int, queue ...int) {
	t.Helper()
	if got, q := l.Owner(), l.Queue(); got != owner || !slices.Equal(q, queue) {
		t.Errorf("owner %d, queue %v, want %d, %v", got, q, owner, queue)
	}
}

// wantTake and wantLeave want what each id is answered, one after another.
func wantTake(t *testing.T, l locker, want bool, ids ...int) {
	t.Helper()
	for _, id := range ids {
		if l.Take(id) != want {
			t.Errorf("Take(%d) is %v", id, !want)
		}
	}
}

func wantLeave(t *testing.T, l locker, want bool, ids ...int) {
	t.Helper()
	for _, id := range ids {
		if l.Leave(id) != want {
			t.Errorf("Leave(%d) is %v", id, !want)
		}
	}
}

// sleeper is a task that notes each of its steps, and waits behind each.
type sleeper struct {
	id    int
	steps *[]int
}

func (x *sleeper) step() int {
	*x.steps = append(*x.steps, x.id)
	return sched.Wait
}

// asleep is a scheduler with so many tasks, all of which wait, and the list where they note their steps from now on.
func asleep(t *testing.T, many int) (*sched.Sched, *[]int) {
	t.Helper()
	s, steps := sched.New(nil), new([]int)
	for range many {
		x := &sleeper{steps: steps}
		x.id, _ = s.Go(x.step)
	}
	if n, e := s.Run(many); n != many || many > 0 && e != api.ErrStuck {
		t.Fatalf("%d of %d fell asleep, %v", n, many, e)
	}
	*steps = nil
	return s, steps
}

// wantWoken wants who of those that slept was woken since it was asked last; they sleep again.
func wantWoken(t *testing.T, s *sched.Sched, steps *[]int, ids ...int) {
	t.Helper()
	s.Run(api.MaxSteps)
	if !slices.Equal(*steps, ids) {
		t.Errorf("woken: %v, want %v", *steps, ids)
	}
	*steps = nil
}

// seeds is numbers by a rule, so that each run has the same.
type seeds uint64

func (s *seeds) below(n int) int {
	*s = *s*6364136223846793005 + 1442695040888963407
	return int(uint64(*s) >> 33 % uint64(n))
}

func (s *seeds) of(l []int) int { return l[s.below(len(l))] }

func (s *seeds) somePicks() []uint8 {
	l := make([]uint8, s.below(12))
	for i := range l {
		l[i] = uint8(s.below(256))
	}
	return l
}
