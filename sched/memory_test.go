package sched

import (
	"slices"
	"testing"

	"backstitch/api"
)

const spare = 3

// roomy copies picks, with marked spare room behind them.
func roomy(l []uint8) []uint8 {
	made := append(make([]uint8, 0, len(l)+spare), l...)
	return append(made, 201, 202, 203)[:len(l)]
}

// TestPicksStay: R4: picks that are handed in stay as they are, spare room too.
func TestPicksStay(t *testing.T) {
	for _, l := range [][]uint8{picks(), picks(1), picks(2, 0, 1), picks(9, 8, 7, 6)} {
		given := roomy(l)
		s, _ := begun(t, given, "aw", "waaa", "aa")
		s.Run(99)
		s.Wake(0)
		s.Wake(1)
		s.Run(99)
		if got := given[:cap(given)]; !slices.Equal(got, append(slices.Clone(l), 201, 202, 203)) {
			t.Errorf("the picks %v became %v", l, got)
		}
	}
}

// TestPicksAreNotKept: R4: what is written over them later is not heard.
func TestPicksAreNotKept(t *testing.T) {
	for _, l := range [][]uint8{picks(), picks(1), picks(2, 0, 1), picks(9, 8, 7, 6)} {
		want, all := begun(t, l, "aaa", "aaa", "aaa")
		want.Run(99)
		given := roomy(l)
		s, log := begun(t, given, "aaa", "aaa", "aaa")
		for i := range 12 {
			for j := range given[:cap(given)] {
				given[:cap(given)][j] = uint8(i*7 + j)
			}
			s.Run(1)
		}
		if *log != *all {
			t.Errorf("picks %v: %s, want %s", l, *log, *all)
		}
	}
}

// TestWaitingIsApart: R4: what is written over an answer, or behind it, is not heard, and no two answers share memory.
func TestWaitingIsApart(t *testing.T) {
	for many := range 20 {
		s, log := begun(t, nil, slices.Repeat([]string{"www"}, many)...)
		s.Run(99)
		want := make([]int, many)
		for i := range want {
			want[i] = i
		}
		first, second := s.Waiting(), s.Waiting()
		for i := range first[:cap(first)] {
			first[:cap(first)][i] = 99
		}
		if !slices.Equal(second, want) || !slices.Equal(s.Waiting(), want) {
			t.Errorf("%d wait: %v, %v", many, second, s.Waiting())
		}
		for id := range many {
			if !s.Wake(id) {
				t.Errorf("%d wait: Wake(%d) is false", many, id)
			}
			if !slices.Equal(second, want) {
				t.Errorf("%d wait: with Wake(%d) the answer became %v", many, id, second)
			}
		}
		if n, _ := s.Run(99); n != many || len(*log) != 2*many {
			t.Errorf("%d were woken, %d stepped", many, n)
		}
		if !slices.Equal(second, want) {
			t.Errorf("%d wait: the answer became %v", many, second)
		}
	}
}

// TestWaitingWithin: a step may keep and change what it was told.
func TestWaitingWithin(t *testing.T) {
	s := New(nil)
	sleeper := &counting{answer: Wait}
	s.Go(sleeper.step)
	s.Go(sleeper.step)
	var kept [][]int
	s.Go(func() int {
		l := s.Waiting()
		kept = append(kept, slices.Clone(l))
		for i := range l {
			s.Wake(l[i])
			l[i] = 2
		}
		return Again
	})
	if n, e := s.Run(9); n != 9 || e != api.ErrLimit {
		t.Errorf("%d, %v", n, e)
	}
	for _, l := range kept {
		if !slices.Equal(l, ints(0, 1)) {
			t.Errorf("told %v", kept)
		}
	}
	if sleeper.steps != 6 || len(kept) != 3 {
		t.Errorf("%d steps, %d times told", sleeper.steps, len(kept))
	}
}
