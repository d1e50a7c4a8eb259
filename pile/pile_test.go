package pile

import (
	"slices"
	"testing"
)

// wants pops all and wants them to be these, in turn.
func wants(t *testing.T, what string, p *Pile, l ...pair) {
	t.Helper()
	for i, x := range l {
		if n := p.Len(); n != len(l)-i {
			t.Errorf("%s: Len = %d, want %d", what, n, len(l)-i)
		}
		if id, rank, ok := p.Top(); id != x.id || rank != x.rank || !ok {
			t.Errorf("%s: Top %d = %d, %d, %v, want %v", what, i, id, rank, ok, x)
		}
		if id, rank, ok := p.Pop(); id != x.id || rank != x.rank || !ok {
			t.Errorf("%s: Pop %d = %d, %d, %v, want %v", what, i, id, rank, ok, x)
		}
	}
	nobody(t, what, p)
}

// nobody wants a pile with nobody in it, and that asking it changes nothing.
func nobody(t *testing.T, what string, p *Pile) {
	t.Helper()
	for range 2 {
		if id, rank, ok := p.Top(); id != 0 || rank != 0 || ok {
			t.Errorf("%s: Top of nobody = %d, %d, %v", what, id, rank, ok)
		}
		if id, rank, ok := p.Pop(); id != 0 || rank != 0 || ok {
			t.Errorf("%s: Pop of nobody = %d, %d, %v", what, id, rank, ok)
		}
		for _, id := range extremes {
			if n := p.Drop(id); n != 0 {
				t.Errorf("%s: Drop %d of nobody = %d", what, id, n)
			}
		}
		if n := p.Len(); n != 0 {
			t.Errorf("%s: Len of nobody = %d", what, n)
		}
	}
}

// made is a pile with these pushed in turn.
func made(l ...pair) *Pile {
	p := New()
	for _, x := range l {
		p.Push(x.id, x.rank)
	}
	return p
}

// TestExample: Push 1 5, 2 9, 3 9: Pop 2 9.
func TestExample(t *testing.T) {
	wants(t, "the example", made(pair{1, 5}, pair{2, 9}, pair{3, 9}), pair{2, 9}, pair{3, 9}, pair{1, 5})
}

// TestByHand: answers written out, apart from the list.
func TestByHand(t *testing.T) {
	wants(t, "none", made())
	wants(t, "one", made(pair{7, 3}), pair{7, 3})
	wants(t, "a 0 of rank 0", made(pair{0, 0}), pair{0, 0})
	wants(t, "rank ahead of id", made(pair{1, 1}, pair{2, 2}, pair{3, 3}), pair{3, 3}, pair{2, 2}, pair{1, 1})
	wants(t, "ids below 0", made(pair{0, 4}, pair{-1, 4}, pair{1, 4}, pair{-9, 3}), pair{-1, 4}, pair{0, 4}, pair{1, 4}, pair{-9, 3})
	wants(t, "ranks below 0", made(pair{1, -5}, pair{2, -4}, pair{3, 0}), pair{3, 0}, pair{2, -4}, pair{1, -5})
	wants(t, "one id with several ranks", made(pair{6, 1}, pair{6, 3}, pair{6, 2}, pair{5, 2}), pair{6, 3}, pair{5, 2}, pair{6, 2}, pair{6, 1})
	wants(t, "alike", made(pair{6, 1}, pair{6, 1}, pair{6, 1}), pair{6, 1}, pair{6, 1}, pair{6, 1})
	p := made(pair{1, 5}, pair{2, 9}, pair{1, 7}, pair{3, 6}, pair{1, 1})
	if a, b, c := p.Drop(1), p.Drop(1), p.Drop(4); a != 3 || b != 0 || c != 0 {
		t.Errorf("Drop = %d, %d, %d, want 3, 0, 0", a, b, c)
	}
	wants(t, "behind Drop", p, pair{2, 9}, pair{3, 6})
}

// inOrders is the same pushed as it stands, backward, with rising and with falling ranks and ids, and in mixed orders.
func inOrders(l []pair) [][]pair {
	backward := slices.Clone(l)
	slices.Reverse(backward)
	rising := slices.Clone(l)
	slices.SortStableFunc(rising, func(a, b pair) int { return 2*sign(a.rank, b.rank) + sign(a.id, b.id) })
	falling := slices.Clone(rising)
	slices.Reverse(falling)
	byID := slices.Clone(l)
	slices.SortStableFunc(byID, func(a, b pair) int { return sign(a.id, b.id) })
	orders := [][]pair{l, backward, rising, falling, byID}
	s := seeds(len(l))
	for range 6 {
		orders = append(orders, s.shuffled(l))
	}
	return orders
}

// sign tells by -1, 0 or 1 which is less, without a difference that could be too great.
func sign(a, b int) int {
	switch {
	case a < b:
		return -1
	case a > b:
		return 1
	}
	return 0
}

// TestPushedInAnyOrder: what comes next hangs on what was pushed, not on when.
func TestPushedInAnyOrder(t *testing.T) {
	s := seeds(14)
	for many := range 70 {
		for _, l := range [][]pair{
			s.some(many, upTo(1+many), upTo(1+many)),
			s.some(many, upTo(1+many), ints(-1, 0, 1)),
			s.some(many, ints(-1, 0, 1), upTo(1+many)),
			s.some(many, extremes, extremes),
		} {
			for _, order := range inOrders(l) {
				startWith(t, "in some order", order).drain()
			}
		}
	}
}

// TestAllOrders: up to six, some alike, in each order in which they can be pushed.
func TestAllOrders(t *testing.T) {
	for _, l := range [][]pair{
		pairs(pair{1, 1}, pair{2, 2}, pair{3, 3}, pair{4, 4}, pair{5, 5}, pair{6, 6}),
		pairs(pair{1, 6}, pair{2, 5}, pair{3, 4}, pair{4, 3}, pair{5, 2}, pair{6, 1}),
		pairs(pair{1, 0}, pair{2, 0}, pair{3, 0}, pair{4, 0}, pair{5, 0}, pair{6, 0}),
		pairs(pair{1, 1}, pair{1, 2}, pair{1, 3}, pair{2, 3}, pair{2, 2}, pair{2, 3}),
	} {
		for many := range len(l) + 1 {
			for _, order := range allOrders(l[:many]) {
				startWith(t, "each order", order).drain()
			}
		}
	}
}

func allOrders(l []pair) [][]pair {
	if len(l) == 0 {
		return [][]pair{nil}
	}
	var all [][]pair
	for _, o := range allOrders(l[1:]) {
		for i := range len(o) + 1 {
			all = append(all, slices.Insert(slices.Clone(o), i, l[0]))
		}
	}
	return all
}

// asks is all that can be asked of both with two ids and two ranks.
func asks() []func(b *both) {
	l := []func(b *both){
		func(b *both) { b.pop() },
		func(b *both) { b.top() },
	}
	for id := range 2 {
		l = append(l, func(b *both) { b.drop(id) })
		for rank := range 2 {
			l = append(l, func(b *both) { b.push(id, rank) })
		}
	}
	return l
}

// TestAllShortStories: each row of five asks, and all that is left behind it.
func TestAllShortStories(t *testing.T) {
	const long = 5
	l := asks()
	stories := 1
	for range long {
		stories *= len(l)
	}
	for story := range stories {
		b := start(t, "a story")
		for range long {
			l[story%len(l)](b)
			story /= len(l)
		}
		b.drain()
	}
}

// byTurns asks both so many times: of ten asks push is that many, drop one, the others Pop and Top.
func byTurns(b *both, s *seeds, times, push int, ids, ranks []int) {
	b.t.Helper()
	for range times {
		switch turn := s.below(10); {
		case turn < push:
			b.push(s.of(ids), s.of(ranks))
		case turn == 9:
			b.drop(s.of(ids))
		case turn%2 == 0:
			b.top()
		default:
			b.pop()
		}
	}
}

// TestByTurns: pushed, popped, told and dropped by turns, while it grows and while it shrinks.
func TestByTurns(t *testing.T) {
	s := seeds(3)
	for _, ids := range [][]int{upTo(3), upTo(40), upTo(1000), extremes} {
		for _, ranks := range [][]int{ints(0), ints(-1, 0, 1), upTo(40), upTo(1000), extremes} {
			for range 10 {
				b := start(t, text(len(ids), " ids, ", len(ranks), " ranks"))
				for _, push := range ints(8, 3, 7, 5, 2) {
					byTurns(b, &s, 60, push, ids, ranks)
				}
				b.drain()
			}
		}
	}
}

// TestTwoPiles: neither hears of what the other one is asked.
func TestTwoPiles(t *testing.T) {
	s := seeds(5)
	for range 30 {
		l := []*both{start(t, "the one"), start(t, "the other"), start(t, "a third")}
		for range 100 {
			byTurns(l[s.below(len(l))], &s, 1+s.below(4), 3+s.below(5), upTo(9), upTo(9))
		}
		for _, b := range l {
			b.drain()
		}
	}
	p, q := New(), New()
	p.Push(1, 1)
	nobody(t, "the other", q)
	q.Push(1, 2)
	q.Push(2, 3)
	p.Drop(1)
	wants(t, "the other", q, pair{2, 3}, pair{1, 2})
	nobody(t, "the one", p)
}
