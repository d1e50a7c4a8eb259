package lock

import (
	"slices"
	"testing"

	"backstitch/sched"
)

// TestExample: Take 1, Take 2, Leave 1: it is 2's.
func TestExample(t *testing.T) {
	l := New(sched.New(nil))
	wantTake(t, l, true, 1)
	wantTake(t, l, false, 2)
	wantLeave(t, l, true, 1)
	wantLock(t, l, 2)
}

// TestOne: who takes and leaves, again and again.
func TestOne(t *testing.T) {
	l := New(sched.New(nil))
	wantLock(t, l, -1)
	for _, id := range ints(0, 0, 7, 0, 127) {
		wantTake(t, l, true, id)
		wantLock(t, l, id)
		wantLeave(t, l, true, id)
		wantLock(t, l, -1)
		wantLeave(t, l, false, id)
		wantLock(t, l, -1)
	}
}

// TestTurns: each that asks has it in the order of asking, whatever the ids are.
func TestTurns(t *testing.T) {
	for _, order := range [][]int{{1}, {1, 2}, {2, 1}, {0, 1, 2, 3}, {3, 2, 1, 0}, {2, 0, 3, 1}, {50, 3, 90, 4, 127, 0, 61}} {
		l := New(sched.New(nil))
		wantTake(t, l, true, order[0])
		for i, id := range order[1:] {
			wantTake(t, l, false, id)
			wantLock(t, l, order[0], order[1:i+2]...)
		}
		for i, id := range order {
			wantLock(t, l, id, order[i+1:]...)
			wantLeave(t, l, false, order[i+1:]...)
			wantLeave(t, l, true, id)
		}
		wantLock(t, l, -1)
	}
}

// TestTakenAgain: by who has it: it stays so, and one Leave is enough.
func TestTakenAgain(t *testing.T) {
	l := New(sched.New(nil))
	wantTake(t, l, true, 4, 4, 4)
	wantLock(t, l, 4)
	wantTake(t, l, false, 5, 6)
	wantTake(t, l, true, 4, 4)
	wantLock(t, l, 4, 5, 6)
	wantLeave(t, l, true, 4)
	wantLock(t, l, 5, 6)
	wantTake(t, l, true, 5)
	wantLock(t, l, 5, 6)
	wantLeave(t, l, true, 5, 6)
	wantLock(t, l, -1)
}

// TestAskedAgain: by who stands in the queue: it keeps its place, and stands there once.
func TestAskedAgain(t *testing.T) {
	l := New(sched.New(nil))
	wantTake(t, l, true, 0)
	wantTake(t, l, false, 1, 2, 3, 1, 1, 3, 2)
	wantLock(t, l, 0, 1, 2, 3)
	wantLeave(t, l, true, 0)
	wantTake(t, l, false, 3, 2)
	wantLock(t, l, 1, 2, 3)
	wantLeave(t, l, true, 1, 2, 3)
	wantLock(t, l, -1)
	wantLeave(t, l, false, 1, 2, 3)
}

// TestLeftByOthers: who stands in the queue, or nowhere, has nothing to leave, and stands where it stood.
func TestLeftByOthers(t *testing.T) {
	l := New(sched.New(nil))
	wantTake(t, l, true, 8)
	wantLeave(t, l, false, 9, 0, -1, 7)
	wantLock(t, l, 8)
	wantTake(t, l, false, 9, 10)
	wantLeave(t, l, false, 9, 10, 11, 0, -1)
	wantLock(t, l, 8, 9, 10)
}

// TestTakenBehindLeave: who left is one as any other: it has the lock if nobody waits, else it stands at the end.
func TestTakenBehindLeave(t *testing.T) {
	l := New(sched.New(nil))
	wantTake(t, l, true, 1)
	wantLeave(t, l, true, 1)
	wantTake(t, l, true, 1)
	wantTake(t, l, false, 2, 3)
	wantLeave(t, l, true, 1)
	wantTake(t, l, false, 1)
	wantLock(t, l, 2, 3, 1)
	wantLeave(t, l, true, 2)
	wantTake(t, l, false, 2)
	wantLock(t, l, 3, 1, 2)
	wantLeave(t, l, true, 3, 1, 2)
	wantTake(t, l, true, 3)
	wantLock(t, l, 3)
}

// TestRounds: a queue that never ends: each that leaves asks again at once.
func TestRounds(t *testing.T) {
	l, want := New(sched.New(nil)), ints(0, 1, 2, 3, 4)
	wantTake(t, l, true, 0)
	wantTake(t, l, false, 1, 2, 3, 4)
	for range 1000 {
		wantLock(t, l, want[0], want[1:]...)
		wantLeave(t, l, true, want[0])
		wantTake(t, l, false, want[0])
		want = append(want[1:], want[0])
	}
}

// TestWoken: Leave wakes the one who has the lock then, and nobody else; nothing but Leave wakes.
func TestWoken(t *testing.T) {
	s, steps := asleep(t, 5)
	l := New(s)
	wantTake(t, l, true, 3)
	wantTake(t, l, false, 1, 4, 0, 1)
	wantTake(t, l, true, 3)
	wantLeave(t, l, false, 1, 0, 2, 9, -1)
	wantWoken(t, s, steps)
	for _, id := range ints(3, 1, 4) {
		wantLeave(t, l, true, id)
		if got := l.Owner(); slices.Contains(s.Waiting(), got) || len(s.Waiting()) != 4 {
			t.Errorf("it is %d's, and %v wait", got, s.Waiting())
		}
		wantWoken(t, s, steps, l.Owner())
		wantWoken(t, s, steps)
	}
	wantLock(t, l, 0)
	wantLeave(t, l, true, 0)
	wantWoken(t, s, steps)
	wantTake(t, l, true, 2)
	wantLeave(t, l, true, 2)
	wantWoken(t, s, steps)
}

// TestWokenOneByOne: those that have the lock one after another, ahead of any step, are all woken.
func TestWokenOneByOne(t *testing.T) {
	s, steps := asleep(t, 4)
	l := New(s)
	wantTake(t, l, true, 2)
	wantTake(t, l, false, 3, 0)
	wantLeave(t, l, true, 2, 3, 0)
	wantWoken(t, s, steps, 0, 3)
}

// TestInHand: who is woken has the lock ahead of its step, so nobody that steps between gets it.
func TestInHand(t *testing.T) {
	s := sched.New(nil)
	l := New(s)
	told := ""
	s.Go(func() int { // asks in each step, and is ahead of the others in all of them
		told += text(" ", l.Take(0), l.Owner())
		return sched.Again
	})
	s.Go(func() int { return sched.Done })
	wantTake(t, l, true, 5)
	wantTake(t, l, false, 1)
	wantLeave(t, l, true, 5)
	wantLock(t, l, 1)
	s.Run(3)
	wantLock(t, l, 1, 0)
	if want := " false 1 false 1 false 1"; told != want {
		t.Errorf("told%s, want%s", told, want)
	}
}

// TestWokenAheadOfWait: the lock is left within the very step that asked for it: its Wait is passed over.
func TestWokenAheadOfWait(t *testing.T) {
	s := sched.New(nil)
	l := New(s)
	wantTake(t, l, true, 9)
	told := ""
	s.Go(func() int {
		got := l.Take(0)
		told += text(" ", got, l.Owner())
		if got {
			return sched.Done
		}
		wantLeave(t, l, true, 9)
		return sched.Wait
	})
	if n, e := s.Run(9); n != 2 || e != 0 || told != " false 9 true 0" {
		t.Errorf("%d, %v, told%s", n, e, told)
	}
}

// TestTwoLocks: neither hears of what the other one is asked, though they are of one scheduler.
func TestTwoLocks(t *testing.T) {
	s, steps := asleep(t, 4)
	a, b := New(s), New(s)
	wantTake(t, a, true, 0)
	wantTake(t, b, true, 1)
	wantTake(t, a, false, 1, 2)
	wantTake(t, b, false, 3, 2, 0)
	wantLock(t, a, 0, 1, 2)
	wantLock(t, b, 1, 3, 2, 0)
	wantLeave(t, a, false, 1, 2, 3)
	wantLeave(t, b, false, 0, 2, 3)
	wantLeave(t, b, true, 1)
	wantWoken(t, s, steps, 3)
	wantLock(t, a, 0, 1, 2)
	wantLock(t, b, 3, 2, 0)
	wantLeave(t, a, true, 0)
	wantWoken(t, s, steps, 1)
	wantLeave(t, a, true, 1)
	wantWoken(t, s, steps, 2)
	wantLeave(t, b, true, 3)
	wantWoken(t, s, steps, 2)
	wantLock(t, a, 2)
	wantLock(t, b, 2, 0)
}

// TestTwoSchedulers: a lock wakes the tasks of its own scheduler alone.
func TestTwoSchedulers(t *testing.T) {
	s, steps := asleep(t, 3)
	other, others := asleep(t, 3)
	l := New(s)
	wantTake(t, l, true, 0)
	wantTake(t, l, false, 1, 2)
	wantLeave(t, l, true, 0, 1)
	wantWoken(t, other, others)
	wantWoken(t, s, steps, 1, 2)
}
