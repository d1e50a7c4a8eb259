package pile

import (
	"fmt"
	"math"
	"slices"
	"testing"
)

// extremes is ids and ranks at which a difference would not be a number any more, with some near them and near 0.
var extremes = []int{math.MinInt, math.MinInt + 1, -1 << 32, -2, -1, 0, 1, 2, 1 << 32, math.MaxInt - 1, math.MaxInt}

func ints(l ...int) []int { return l }

func text(l ...any) string { return fmt.Sprint(l...) }

// pair is an id with its rank.
type pair struct{ id, rank int }

func pairs(l ...pair) []pair { return l }

// list is the chapter's sentences spelled out: all that was pushed, in that order, searched from its beginning to its end.
type list []pair

func (l *list) push(id, rank int) { *l = append(*l, pair{id, rank}) }

// next is the place of the greatest rank, of these of the least id, of these of the one that was pushed first; -1: there is nobody.
func (l *list) next() int {
	best := -1
	for i, x := range *l {
		if best < 0 || x.rank > (*l)[best].rank || x.rank == (*l)[best].rank && x.id < (*l)[best].id {
			best = i
		}
	}
	return best
}

func (l *list) top() (int, int, bool) {
	i := l.next()
	if i < 0 {
		return 0, 0, false
	}
	return (*l)[i].id, (*l)[i].rank, true
}

func (l *list) pop() (int, int, bool) {
	id, rank, ok := l.top()
	if ok {
		i := l.next()
		*l = slices.Delete(*l, i, i+1)
	}
	return id, rank, ok
}

func (l *list) drop(id int) int {
	var left list
	for _, x := range *l {
		if x.id != id {
			left = append(left, x)
		}
	}
	many := len(*l) - len(left)
	*l = left
	return many
}

// both is a pile and a list that are asked the same; each of its methods wants the same answer of both.
type both struct {
	t    *testing.T
	what string
	pile *Pile
	list list
}

func start(t *testing.T, what string) *both {
	t.Helper()
	b := &both{t: t, what: what, pile: New()}
	b.length()
	return b
}

// startWith is both with some pushed.
func startWith(t *testing.T, what string, l []pair) *both {
	t.Helper()
	b := start(t, what)
	for _, x := range l {
		b.push(x.id, x.rank)
	}
	return b
}

func (b *both) note(did ...any) {
	if len(b.what) < 400 {
		b.what += "; " + text(did...)
	}
}

// length wants Len to tell how many there are; it is asked behind each of the others.
func (b *both) length() {
	b.t.Helper()
	if n := b.pile.Len(); n != len(b.list) {
		b.t.Fatalf("%s: Len = %d, want %d", b.what, n, len(b.list))
	}
}

func (b *both) push(id, rank int) {
	b.t.Helper()
	b.note("push ", id, " ", rank)
	b.pile.Push(id, rank)
	b.list.push(id, rank)
	b.length()
}

func (b *both) pop() bool {
	b.t.Helper()
	b.note("pop")
	id, rank, ok := b.pile.Pop()
	wantID, wantRank, want := b.list.pop()
	if id != wantID || rank != wantRank || ok != want {
		b.t.Fatalf("%s: Pop = %d, %d, %v, want %d, %d, %v", b.what, id, rank, ok, wantID, wantRank, want)
	}
	b.length()
	return ok
}

func (b *both) top() {
	b.t.Helper()
	b.note("top")
	id, rank, ok := b.pile.Top()
	wantID, wantRank, want := b.list.top()
	if id != wantID || rank != wantRank || ok != want {
		b.t.Fatalf("%s: Top = %d, %d, %v, want %d, %d, %v", b.what, id, rank, ok, wantID, wantRank, want)
	}
	b.length()
}

func (b *both) drop(id int) {
	b.t.Helper()
	b.note("drop ", id)
	got, want := b.pile.Drop(id), b.list.drop(id)
	if got != want {
		b.t.Fatalf("%s: Drop %d = %d, want %d", b.what, id, got, want)
	}
	b.length()
}

// drain tells and pops all, and goes on for two more that are not there.
func (b *both) drain() {
	b.t.Helper()
	for b.top(); b.pop(); b.top() {
	}
	b.top()
	b.pop()
}

// seeds is numbers by a rule, so that each run has the same.
type seeds uint64

func (s *seeds) below(n int) int {
	*s = *s*6364136223846793005 + 1442695040888963407
	return int(uint64(*s) >> 33 % uint64(n))
}

func (s *seeds) of(l []int) int { return l[s.below(len(l))] }

// shuffled is the same in some order.
func (s *seeds) shuffled(l []pair) []pair {
	made := slices.Clone(l)
	for i := range made {
		j := s.below(i + 1)
		made[i], made[j] = made[j], made[i]
	}
	return made
}

// some is that many, each of an id and a rank of those.
func (s *seeds) some(many int, ids, ranks []int) []pair {
	l := make([]pair, many)
	for i := range l {
		l[i] = pair{s.of(ids), s.of(ranks)}
	}
	return l
}

// upTo is the numbers from 0 on below n.
func upTo(n int) []int {
	l := make([]int, n)
	for i := range l {
		l[i] = i
	}
	return l
}
