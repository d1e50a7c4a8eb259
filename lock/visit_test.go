package lock

import (
	"fmt"
	"slices"
	"strings"
	"testing"

	"backstitch/api"
	"backstitch/sched"
)

// place is what visitors share: who is in it, who asked, who came in, and what happened.
type place struct {
	l      locker
	inside int
	asked  []int
	came   []int
	log    strings.Builder
}

// visitor comes so many times to each of its places, one place after another: it takes the lock, stays for some steps, and leaves.
type visitor struct {
	t      *testing.T
	id     int
	places []*place
	stay   int
	times  int
	left   int
	asked  bool
}

func (v *visitor) step() int {
	p := v.places[0]
	if v.left == 0 && !v.enter(p) {
		fmt.Fprint(&p.log, "-")
		return sched.Wait
	}
	fmt.Fprint(&p.log, v.id)
	if p.inside != 1 || p.l.Owner() != v.id || slices.Contains(p.l.Queue(), v.id) {
		v.t.Errorf("%d is in, with %d; it is %d's, and %v stand there", v.id, p.inside, p.l.Owner(), p.l.Queue())
	}
	if v.left--; v.left > 0 {
		return sched.Again
	}
	p.inside--
	if !p.l.Leave(v.id) || p.l.Leave(v.id) {
		v.t.Errorf("%d did not leave, or left twice", v.id)
	}
	return v.onward()
}

// enter tells whether the visitor is in; if not, it stands in the queue.
func (v *visitor) enter(p *place) bool {
	if !v.asked {
		p.asked = append(p.asked, v.id)
	}
	in := p.l.Take(v.id)
	if v.asked && !in {
		v.t.Errorf("%d was woken without the lock in hand", v.id)
	}
	v.asked = !in
	if in {
		p.inside++
		p.came = append(p.came, v.id)
		v.left = v.stay
	}
	return in
}

// onward is what the visitor answers when it has left: it comes again to this place, or to the next one, or it is done.
func (v *visitor) onward() int {
	if v.times--; v.times > 0 {
		return sched.Again
	}
	if v.places = v.places[1:]; len(v.places) > 0 {
		v.times = 1
		return sched.Again
	}
	return sched.Done
}

// visits lets visitors of so many steps come so many times, and wants that all end, each in its turn, with one Wait at most a visit; it answers what happened.
func visits(t *testing.T, picks []uint8, make func(*sched.Sched) locker, times int, stays ...int) string {
	t.Helper()
	s := sched.New(picks)
	p := &place{l: make(s)}
	inside := 0
	for _, stay := range stays {
		v := &visitor{t: t, places: []*place{p}, stay: stay, times: times}
		v.id, _ = s.Go(v.step)
		inside += stay * times
	}
	n, e := s.Run(api.MaxSteps)
	if waits := strings.Count(p.log.String(), "-"); e != api.OK || n != inside+waits || waits > len(stays)*times {
		t.Errorf("picks %v, stays %v: %d steps, %v, %s", picks, stays, n, e, p.log.String())
	}
	if !slices.Equal(p.came, p.asked) || len(p.came) != len(stays)*times {
		t.Errorf("picks %v, stays %v: asked %v, came %v", picks, stays, p.asked, p.came)
	}
	wantLock(t, p.l, -1)
	return p.log.String()
}

// TestVisits: written out by hand: who steps in it, and - where one that asks must wait.
func TestVisits(t *testing.T) {
	for _, c := range []struct {
		picks []uint8
		times int
		stays []int
		want  string
	}{
		{nil, 1, ints(1), "0"},
		{nil, 3, ints(2), "000000"},
		{nil, 1, ints(2, 2), "0011"},
		{picks(1, 0), 1, ints(2, 2), "1-100"},
		{picks(1), 1, ints(1, 1, 1), "120"},
		{picks(0, 1, 1), 1, ints(3, 1, 1), "0--0012"},
		{picks(0, 2, 1), 1, ints(3, 1, 1), "0--0021"},
		{picks(0, 1), 2, ints(2, 2), "0-01-10-011"},
	} {
		if got := visits(t, c.picks, newReal, c.times, c.stays...); got != c.want {
			t.Errorf("picks %v, %d times, stays %v: %s, want %s", c.picks, c.times, c.stays, got, c.want)
		}
	}
}

// TestVisitsByAllPicks: never two at a time, all end, in the order of asking, as with a plain list: by all short picks.
func TestVisitsByAllPicks(t *testing.T) {
	for length := range 5 {
		for number := range 1 << (2 * length) {
			l := make([]uint8, length)
			for i := range l {
				l[i] = uint8(number >> (2 * i) & 3)
			}
			for _, stays := range [][]int{{2, 1}, {1, 2, 1}, {3, 1, 2, 2}} {
				got, want := visits(t, l, newReal, 2, stays...), visits(t, l, newPlain, 2, stays...)
				if got != want {
					t.Fatalf("picks %v, stays %v: %s, want %s", l, stays, got, want)
				}
			}
		}
	}
}

// TestManyVisits: more of them, that come more often, by more picks.
func TestManyVisits(t *testing.T) {
	s := seeds(16)
	for range 300 {
		p, times := s.somePicks(), 1+s.below(4)
		stays := make([]int, 1+s.below(20))
		for i := range stays {
			stays[i] = 1 + s.below(5)
		}
		got, want := visits(t, p, newReal, times, stays...), visits(t, p, newPlain, times, stays...)
		if got != want {
			t.Fatalf("picks %v, stays %v: %s, want %s", p, stays, got, want)
		}
	}
}

// TestCrowd: as many tasks as may be.
func TestCrowd(t *testing.T) {
	for _, p := range [][]uint8{nil, picks(1), picks(255, 0, 7), picks(3, 90, 41, 200, 16)} {
		visits(t, p, newReal, 3, slices.Repeat([]int{2}, api.MaxTasks)...)
	}
}

// TestTwoPlaces: two locks side by side: each holds one at a time, both may be full, and all end.
func TestTwoPlaces(t *testing.T) {
	both := 0
	s := seeds(2)
	for range 200 {
		tasks := sched.New(s.somePicks())
		a, b := &place{l: New(tasks)}, &place{l: New(tasks)}
		var many int
		for many = range 2 + s.below(8) {
			v := &visitor{t: t, stay: 1 + s.below(4), times: 1, places: []*place{a, b}}
			if s.below(2) == 0 {
				v.places = []*place{b, a, b}
			}
			v.id, _ = tasks.Go(v.step)
		}
		for e := api.ErrLimit; e == api.ErrLimit; {
			if _, e = tasks.Run(1); e == api.ErrStuck {
				t.Fatalf("%v wait for ever", tasks.Waiting())
			}
			if a.inside+b.inside == 2 {
				both++
			}
		}
		for _, p := range []*place{a, b} {
			wantLock(t, p.l, -1)
			if !slices.Equal(p.came, p.asked) || len(p.came) <= many {
				t.Errorf("asked %v, came %v", p.asked, p.came)
			}
		}
	}
	if both == 0 {
		t.Error("the two were never full at one time")
	}
}

// TestOneWithinTheOther: who has the one lock takes the other one too: never two have either, and all end.
func TestOneWithinTheOther(t *testing.T) {
	s := seeds(4)
	for range 200 {
		tasks := sched.New(s.somePicks())
		outer, inner := New(tasks), New(tasks)
		inside, ended := 0, 0
		many := 1 + s.below(9)
		for id := range many {
			within, left := s.below(3) > 0, 1+s.below(3)
			tasks.Go(func() int {
				if within && !outer.Take(id) || !inner.Take(id) {
					return sched.Wait
				}
				if inside++; inside != 1 {
					t.Errorf("%d are in", inside)
				}
				inside--
				if left--; left > 0 && s.below(2) == 0 {
					return sched.Again
				}
				wantLeave(t, inner, true, id)
				wantLeave(t, outer, within, id)
				if left > 0 {
					return sched.Again
				}
				ended++
				return sched.Done
			})
		}
		if n, e := tasks.Run(api.MaxSteps); e != api.OK || ended != many {
			t.Errorf("%d steps, %v, %d of %d ended", n, e, ended, many)
		}
		wantLock(t, outer, -1)
		wantLock(t, inner, -1)
	}
}
