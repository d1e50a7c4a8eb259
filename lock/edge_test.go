package lock

import (
	"math"
	"slices"
	"testing"

	"backstitch/api"
	"backstitch/sched"
)

// extremes is the ids that are no task's, and some that may be.
var extremes = []int{-1, 0, 1, -2, api.MaxTasks - 1, api.MaxTasks, -api.MaxTasks, 1 << 31, -1 << 31, math.MaxInt, math.MinInt}

// TestNil: R7.
func TestNil(t *testing.T) {
	var l *Lock
	for range 2 {
		wantTake(t, l, false, extremes...)
		wantLeave(t, l, false, extremes...)
		wantLock(t, l, 0)
	}
}

// TestOfNoScheduler: a lock of a nil scheduler, of a new one and of none wakes nobody, and does all else.
func TestOfNoScheduler(t *testing.T) {
	for _, l := range []*Lock{New(nil), New(sched.New(nil)), New(&sched.Sched{}), {}} {
		wantLock(t, l, -1)
		wantLeave(t, l, false, extremes...)
		wantTake(t, l, true, 4, 4)
		wantTake(t, l, false, 5, 6, 5)
		wantLock(t, l, 4, 5, 6)
		wantLeave(t, l, false, 5, 6)
		wantLeave(t, l, true, 4)
		wantTake(t, l, false, 4)
		wantLock(t, l, 5, 6, 4)
		wantLeave(t, l, true, 5, 6, 4)
		wantLock(t, l, -1)
		wantLeave(t, l, false, 4, 5, 6)
	}
}

// TestAnyId: R6: any number may take, stand and leave, also those that are no task's.
func TestAnyId(t *testing.T) {
	s, steps := asleep(t, 2)
	for _, first := range extremes {
		l := New(s)
		wantTake(t, l, true, first, first)
		wantLock(t, l, first)
		want := slices.DeleteFunc(slices.Clone(extremes), func(id int) bool { return id == first })
		wantTake(t, l, false, want...)
		wantTake(t, l, false, want...)
		wantLock(t, l, first, want...)
		wantLeave(t, l, false, want...)
		wantLeave(t, l, true, first)
		for i, id := range want {
			wantLock(t, l, id, want[i+1:]...)
			wantLeave(t, l, false, first)
			wantLeave(t, l, true, id)
		}
		wantLock(t, l, -1)
		wantLeave(t, l, false, extremes...)
		wantWoken(t, s, steps, slices.DeleteFunc(ints(0, 1), func(id int) bool { return id == first })...)
	}
}

// TestMinusOne: who has that number has the lock as any other has it, though Owner answers the same of a free one.
func TestMinusOne(t *testing.T) {
	l := New(sched.New(nil))
	wantLeave(t, l, false, -1)
	wantTake(t, l, true, -1, -1)
	wantLock(t, l, -1)
	wantTake(t, l, false, 0, 1)
	wantLock(t, l, -1, 0, 1)
	wantLeave(t, l, false, 0)
	wantLeave(t, l, true, -1)
	wantTake(t, l, false, -1)
	wantLock(t, l, 0, 1, -1)
	wantLeave(t, l, true, 0, 1)
	wantLock(t, l, -1)
	wantTake(t, l, false, 0)
	wantLeave(t, l, true, -1, 0)
	wantLeave(t, l, false, -1)
}

// TestZeroIsNobody: an id of 0 neither has a new lock nor one that was left.
func TestZeroIsNobody(t *testing.T) {
	l := New(sched.New(nil))
	wantLeave(t, l, false, 0)
	wantTake(t, l, true, 3)
	wantLeave(t, l, false, 0)
	wantLeave(t, l, true, 3)
	wantLeave(t, l, false, 0)
	wantTake(t, l, true, 0)
	wantTake(t, l, false, 3)
	wantLeave(t, l, true, 0, 3)
}

// TestRefusedChangesNothing: R3: a Leave that is refused, and a Take of who stands somewhere already.
func TestRefusedChangesNothing(t *testing.T) {
	s, steps := asleep(t, 6)
	l := New(s)
	all := ints(3, 5, 0, 2)
	wantTake(t, l, true, 3)
	wantTake(t, l, false, all[1:]...)
	for i, id := range all {
		for range 3 {
			wantLeave(t, l, false, all[i+1:]...)
			wantLeave(t, l, false, 1, 4, 6, -1, -9)
			wantTake(t, l, true, id)
			wantTake(t, l, false, all[i+1:]...)
			wantLock(t, l, id, all[i+1:]...)
			wantWoken(t, s, steps)
		}
		wantLeave(t, l, true, id)
		if i+1 < len(all) {
			wantWoken(t, s, steps, all[i+1])
		}
	}
	wantWoken(t, s, steps)
}

// TestDoneInQueue: one that is Done, or no task, keeps its place: the lock is its own in its turn, though nobody is woken.
func TestDoneInQueue(t *testing.T) {
	s, steps := asleep(t, 2)
	id, _ := s.Go(func() int { return sched.Done })
	wantWoken(t, s, steps)
	l := New(s)
	wantTake(t, l, true, 0)
	wantTake(t, l, false, id, 77, 1)
	wantLeave(t, l, true, 0)
	wantLock(t, l, id, 77, 1)
	wantLeave(t, l, true, id)
	wantLock(t, l, 77, 1)
	wantWoken(t, s, steps)
	wantLeave(t, l, true, 77)
	wantLock(t, l, 1)
	wantWoken(t, s, steps, 1)
}

// TestMadeLater: who stands in the queue ahead of being a task is woken if it is one in its turn.
func TestMadeLater(t *testing.T) {
	s := sched.New(nil)
	l := New(s)
	wantTake(t, l, true, 1)
	wantTake(t, l, false, 0)
	steps := new([]int)
	s.Go((&sleeper{id: 0, steps: steps}).step)
	s.Run(9)
	*steps = nil
	wantLeave(t, l, true, 1)
	wantWoken(t, s, steps, 0)
}

// TestLongQueue: many, some of whom ask again; the order stays, and it does not take long.
func TestLongQueue(t *testing.T) {
	const many = 200_000
	l := New(sched.New(nil))
	wantTake(t, l, true, many)
	var want []int
	for i := range many {
		id := i*77_777%many - many/2
		want = append(want, id)
		if l.Take(id) || l.Take(id) || l.Take(want[i/2]) {
			t.Fatalf("Take is true of %d", id)
		}
	}
	wantLock(t, l, many, want...)
	wantLeave(t, l, true, many)
	for i, id := range want {
		if i%20_000 == 0 {
			wantLock(t, l, id, want[i+1:]...)
		}
		if l.Leave(many) || l.Owner() != id || !l.Leave(id) || l.Leave(id) {
			t.Fatalf("at %d: owner %d, want %d", i, l.Owner(), id)
		}
	}
	wantLock(t, l, -1)
}

// TestAllTasks: as many tasks as may be, each in the order of its asking.
func TestAllTasks(t *testing.T) {
	s, steps := asleep(t, api.MaxTasks)
	l := New(s)
	wantTake(t, l, true, 5)
	for i := 1; i < api.MaxTasks; i++ {
		wantTake(t, l, false, (5+i*19)%api.MaxTasks)
	}
	for i := 1; i < api.MaxTasks; i++ {
		wantLeave(t, l, true, l.Owner())
		wantWoken(t, s, steps, (5+i*19)%api.MaxTasks)
	}
	wantLock(t, l, (5+19*(api.MaxTasks-1))%api.MaxTasks)
}
