package lock

import (
	"slices"
	"testing"

	"backstitch/sched"
)

// TestQueueIsApart: R4: what is written over an answer, or behind it, is not heard, and no two answers share memory.
func TestQueueIsApart(t *testing.T) {
	for many := range 20 {
		l := New(sched.New(nil))
		wantTake(t, l, true, -7)
		var want []int
		for i := range many {
			want = append(want, 10*i)
			wantTake(t, l, false, 10*i)
		}
		for i := range many {
			first, second := l.Queue(), l.Queue()
			for j := range first[:cap(first)] {
				first[:cap(first)][j] = 99
			}
			if !slices.Equal(second, want[i:]) || !slices.Equal(l.Queue(), want[i:]) {
				t.Errorf("%d stand there: %v, %v, want %v", many-i, second, l.Queue(), want[i:])
			}
			wantLeave(t, l, true, l.Owner())
			wantLock(t, l, want[i], want[i+1:]...)
		}
	}
}

// TestQueueStays: an answer is what it was, whatever the lock is asked later.
func TestQueueStays(t *testing.T) {
	l := New(sched.New(nil))
	wantTake(t, l, true, 0)
	var answers, copies [][]int
	for round := range 30 {
		for i := range round%7 + 1 {
			l.Take(round*3%11 + i)
			answers = append(answers, l.Queue())
			copies = append(copies, l.Queue())
		}
		for range round % 5 {
			l.Leave(l.Owner())
			answers = append(answers, l.Queue())
			copies = append(copies, l.Queue())
		}
	}
	for i, got := range answers {
		want := slices.Clone(copies[i])
		for j := range copies[i] {
			copies[i][j] = -1
		}
		if !slices.Equal(got, want) {
			t.Errorf("answer %d became %v, want %v", i, got, want)
		}
	}
}

// TestQueueWithin: what is appended to an answer does not come into the queue, nor does the queue come into it.
func TestQueueWithin(t *testing.T) {
	l := New(sched.New(nil))
	wantTake(t, l, true, 0)
	wantTake(t, l, false, 1, 2, 3)
	mine := append(l.Queue(), 50)
	wantTake(t, l, false, 4)
	mine = append(mine, 51)
	wantTake(t, l, false, 5)
	wantLock(t, l, 0, 1, 2, 3, 4, 5)
	if !slices.Equal(mine, ints(1, 2, 3, 50, 51)) {
		t.Errorf("the answer became %v", mine)
	}
}
