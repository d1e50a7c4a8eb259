package pile

import (
	"cmp"
	"math"
	"slices"
	"testing"
)

// TestAlike: ranks alike, ids alike, both alike, many times.
func TestAlike(t *testing.T) {
	for _, many := range ints(2, 3, 10, 100) {
		for _, l := range [][]pair{
			slices.Repeat(pairs(pair{4, 4}), many),
			slices.Repeat(pairs(pair{4, 4}, pair{5, 4}, pair{3, 4}), many),
			slices.Repeat(pairs(pair{4, 4}, pair{4, 5}, pair{4, 3}), many),
			slices.Repeat(pairs(pair{4, 4}, pair{5, 5}, pair{4, 5}, pair{5, 4}), many),
		} {
			for _, order := range inOrders(l) {
				startWith(t, "alike", order).drain()
				b := startWith(t, "alike and dropped", order)
				b.drop(4)
				b.drop(4)
				b.drain()
			}
		}
	}
}

// TestExtremes: each two of the least, the greatest and those near 0, as ids and as ranks, either pushed first.
func TestExtremes(t *testing.T) {
	var all []pair
	for _, id := range extremes {
		for _, rank := range extremes {
			all = append(all, pair{id, rank})
		}
	}
	for _, x := range all {
		for _, y := range all {
			b := startWith(t, "two", pairs(x, y))
			b.top()
			b.pop()
			b.pop()
			b.pop()
			b = startWith(t, "two, one dropped", pairs(x, y))
			b.drop(x.id)
			b.drain()
		}
	}
	for _, order := range inOrders(all) {
		startWith(t, "all", order).drain()
		for _, id := range extremes {
			b := startWith(t, "all but one", order)
			b.drop(id)
			b.drain()
		}
	}
	wants(t, "by hand", made(pair{math.MinInt, math.MinInt}, pair{math.MaxInt, math.MaxInt}, pair{math.MinInt, math.MaxInt}, pair{math.MaxInt, math.MinInt}, pair{0, 0}),
		pair{math.MinInt, math.MaxInt}, pair{math.MaxInt, math.MaxInt}, pair{0, 0}, pair{math.MinInt, math.MinInt}, pair{math.MaxInt, math.MinInt})
}

// TestTopStays: again and again, with Len behind it, and it is Pop's answer in the end.
func TestTopStays(t *testing.T) {
	b := startWith(t, "told", pairs(pair{3, 2}, pair{1, 2}, pair{2, 7}, pair{9, 7}))
	for range 5 {
		for range 50 {
			b.top()
			b.length()
		}
		b.pop()
	}
}

// TestNewcomers: Top after each Push, be it ahead of all, in the middle or behind all.
func TestNewcomers(t *testing.T) {
	for _, step := range ints(1, -1, 7, -7) {
		b := start(t, text("ranks by ", step))
		for i := range 200 {
			b.push(i%5, i*step%11)
			b.top()
		}
		b.drain()
	}
}

// TestFilledAgain: a pile that has become empty, by Pop or by Drop, is as a new one.
func TestFilledAgain(t *testing.T) {
	b := start(t, "again")
	for round := range 20 {
		for i := range round {
			b.push(i%4, i*i%7)
		}
		if round%2 == 0 {
			b.drain()
			continue
		}
		for id := range 4 {
			b.drop(id)
		}
		b.top()
		b.pop()
	}
	p := made(pair{5, 9})
	p.Pop()
	nobody(t, "popped", p)
	p.Push(6, 1)
	wants(t, "filled again", p, pair{6, 1})
	p.Push(5, 9)
	p.Drop(5)
	nobody(t, "dropped", p)
	p.Push(5, 2)
	p.Push(5, 3)
	wants(t, "filled again", p, pair{5, 3}, pair{5, 2})
}

// TestDropEach: of each many, pushed in each of some orders, the one at each place: next, last, in the middle.
func TestDropEach(t *testing.T) {
	for many := range 40 {
		var l []pair
		for id := range many {
			l = append(l, pair{id, id * 17 % 23})
		}
		for _, order := range inOrders(l) {
			for id := -1; id <= many; id++ {
				b := startWith(t, "one dropped", order)
				b.drop(id)
				b.drop(id)
				b.top()
				b.drain()
			}
		}
	}
}

// TestDropBetween: behind some Pops, and with others pushed behind it, the one that was dropped among them.
func TestDropBetween(t *testing.T) {
	s := seeds(11)
	for many := range 30 {
		l := s.some(many, upTo(8), upTo(12))
		for pops := range min(many, 6) {
			for id := range 8 {
				b := startWith(t, "between", l)
				for range pops {
					b.pop()
				}
				b.drop(id)
				b.push(id, 6)
				b.push(id+1, 6)
				b.top()
				b.drop(id + 1)
				b.push(0, 99)
				b.drain()
			}
		}
	}
}

// TestDropAll: of one id, or id after id.
func TestDropAll(t *testing.T) {
	for many := range 50 {
		l := make([]pair, many)
		for i := range l {
			l[i] = pair{-3, i * 29 % 31}
		}
		b := startWith(t, "all of one id", l)
		b.drop(3)
		b.drop(-3)
		b.drop(-3)
		b.drain()
		s := seeds(many)
		b = startWith(t, "id after id", s.some(many, upTo(7), upTo(7)))
		for id := range 7 {
			b.drop(id * 3 % 7)
			b.top()
		}
		b.drain()
	}
}

// TestDropManyAmongMany: those with one id stand in small and in great numbers among the others.
func TestDropManyAmongMany(t *testing.T) {
	s := seeds(2)
	for _, mine := range ints(0, 1, 2, 50, 300) {
		for _, others := range ints(0, 1, 2, 50, 300) {
			l := append(s.some(mine, ints(5), upTo(40)), s.some(others, ints(3, 4, 6, 7, 500), upTo(40))...)
			for _, order := range inOrders(l) {
				b := startWith(t, text(mine, " among ", others), order)
				if n := slices.Clone(b.list); n.drop(5) != mine {
					t.Fatal("the test itself is wrong")
				}
				b.drop(5)
				b.drop(5)
				b.drain()
			}
		}
	}
}

// TestWrongAsks: an id that is not there, also one that is a rank, a place or a length of those that are.
func TestWrongAsks(t *testing.T) {
	nobody(t, "a new pile", New())
	for _, id := range append(ints(3, 5, 8, 12, 30), extremes...) {
		b := startWith(t, "not there", pairs(pair{10, 3}, pair{20, 5}, pair{10, 8}, pair{40, 12}))
		b.drop(id)
		b.drop(id)
		b.drain()
		b.drop(id)
		b.drain()
	}
}

// TestNobodyIsNothing: asking a pile with nobody in it changes nothing that is told later.
func TestNobodyIsNothing(t *testing.T) {
	p := New()
	for range 100 {
		nobody(t, "asked often", p)
	}
	p.Push(0, 0)
	p.Push(-1, 0)
	wants(t, "asked often, then filled", p, pair{-1, 0}, pair{0, 0})
}

// TestNilPile: R7.
func TestNilPile(t *testing.T) {
	var p *Pile
	nobody(t, "nil", p)
	for _, x := range extremes {
		p.Push(x, x)
		p.Push(0, x)
		nobody(t, "nil, pushed to", p)
	}
}

// TestThousands: by turns, against the list.
func TestThousands(t *testing.T) {
	s := seeds(8)
	b := startWith(t, "thousands", s.some(3000, upTo(600), upTo(90)))
	byTurns(b, &s, 3000, 5, upTo(600), upTo(90))
	b.drain()
}

// inTurn is in which order these come.
func inTurn(l []pair) []pair {
	sorted := slices.Clone(l)
	slices.SortStableFunc(sorted, func(a, b pair) int {
		return cmp.Or(cmp.Compare(b.rank, a.rank), cmp.Compare(a.id, b.id))
	})
	return sorted
}

// TestFarMore: so many that no search through all of them could answer each Pop in time.
func TestFarMore(t *testing.T) {
	const many = 1 << 19
	s := seeds(6)
	l := s.some(many, upTo(many), upTo(many/8))
	p := made(l...)
	mine := l[many/2].id
	left := slices.DeleteFunc(slices.Clone(l), func(x pair) bool { return x.id == mine })
	if n := p.Drop(mine); n != len(l)-len(left) {
		t.Fatalf("Drop %d = %d, want %d", mine, n, len(l)-len(left))
	}
	for i, x := range inTurn(left) {
		topID, topRank, there := p.Top()
		id, rank, ok := p.Pop()
		if id != x.id || rank != x.rank || !ok || topID != id || topRank != rank || !there {
			t.Fatalf("Pop %d = %d, %d, %v, Top %d, %d, %v, want %v", i, id, rank, ok, topID, topRank, there, x)
		}
	}
	nobody(t, "far more", p)
}
