package graph

import (
	"math"
	"math/big"
	"slices"
	"testing"

	"backstitch/api"
)

func TestEdges(t *testing.T) {
	for _, c := range []struct {
		g    api.Graph
		want int
	}{
		{api.Graph{}, 0},
		{of(), 0},
		{of(leaf(0)), 0},
		{of(leaf(0), node(api.Add, 0, 0)), 2},
		{of(leaf(0), node(api.Add, 0, 0), node(api.Neg, 1), call(7, 2)), 4},
		{of(node(0, 5, 6, 7), node(1, -1), node(99)), 4},
		{of(node(api.Neg, -1, math.MinInt, math.MaxInt)), 3},
		{wide(1000), 0},
		{often(1000, 0), 1000},
	} {
		for range 2 {
			if got := Edges(c.g); got != c.want {
				t.Errorf("Edges(%v) = %v, want %v", c.g, got, c.want)
			}
		}
	}
}

func TestWork(t *testing.T) {
	for _, c := range []struct {
		what    string
		l       []api.Graph
		g, want int
	}{
		{"no nodes", all(of()), 0, 0},
		{"one node", all(of(param())), 0, 1},
		{"the one that is asked", all(wide(5), wide(7), wide(9)), 1, 7},
		{"the last one", all(wide(5), wide(7), wide(9)), 2, 9},
		{"a Call", all(of(param()), of(leaf(0), call(0, 0))), 1, 3},
		{"a Call of a later one", all(of(leaf(0), call(1, 0)), wide(10)), 0, 12},
		{"a Call of one without nodes", all(of(leaf(0), call(1, 0)), of()), 0, 2},
		{"two Calls of one", all(of(param()), often(2, 0)), 1, 5},
		{"Calls of two", all(wide(3), wide(10), of(leaf(0), call(0, 0), call(1, 0), call(0, 0))), 2, 4 + 3 + 10 + 3},
		{"Calls within Calls", all(often(2, 1), often(3, 2), wide(10)), 0, 3 + 2*(4+3*10)},
		{"one Called near and far", all(of(call(1, 0), call(2, 0)), of(call(2, 0)), wide(10)), 0, 2 + 10 + 1 + 10},
		{"what it does not Call", all(of(param()), often(1, 1), often(1, 9), wide(5000)), 0, 1},
		{"what is no Call", all(of(api.Node{Op: api.Leaf, No: 9}, api.Node{Op: api.Neg, No: -1}, node(0), node(99, 5))), 0, 4},
		{"a Call without an input", all(wide(10), of(node(api.Call))), 1, 11},
		{"deep as may be", chain(api.MaxDepth), 0, 2*api.MaxDepth + 1},
		{"from the second on", chain(api.MaxDepth + 1), 1, 2*api.MaxDepth + 1},
		{"from the last but one", chain(100), 99, 3},
		{"from the last one", chain(100), 100, 1},
	} {
		worked(t, c.what, c.l, c.g, c.want, api.OK)
	}
}

func TestNoGraph(t *testing.T) {
	for _, g := range ints(math.MinInt, -1, 0, 1, math.MaxInt) {
		worked(t, "no graphs", nil, g, 0, api.ErrGraph)
	}
	for _, g := range ints(math.MinInt, -1, 2, 3, 1<<32, math.MaxInt) {
		worked(t, "two graphs", all(wide(1), wide(2)), g, 0, api.ErrGraph)
	}
	for _, no := range ints(math.MinInt, -1, 3, 4, 1<<32, math.MaxInt) {
		l := all(of(param(), call(1, 0)), of(param(), call(2, 0), call(no, 0)), of(param()))
		worked(t, text("a Call of ", no), l, 1, 0, api.ErrGraph)
		worked(t, text("a Call of one that Calls ", no), l, 0, 0, api.ErrGraph)
		worked(t, text("a Call of ", no, " elsewhere"), l, 2, 1, api.OK)
	}
}

// TestNoGraphGoesFirst: however deep the Call of none stands, and however much work there is.
func TestNoGraphGoesFirst(t *testing.T) {
	for _, deep := range ints(1, api.MaxDepth-1, api.MaxDepth, api.MaxDepth+1, api.MaxDepth+2, 100) {
		l := chain(deep)
		worked(t, text(deep, " deep to a Call of none"), l[:deep], 0, 0, api.ErrGraph)
		l[deep] = of(param(), call(0, 0), call(-1, 0))
		worked(t, text(deep, " deep, and round again"), l, 0, 0, api.ErrGraph)
	}
	worked(t, "Calls itself, and none", all(of(call(0, 0), call(1, 0))), 0, 0, api.ErrGraph)
	worked(t, "Calls none, and itself", all(of(call(1, 0), call(0, 0))), 0, 0, api.ErrGraph)
	worked(t, "too much work, and none", all(often(255, 1), often(255, 2), of(append(wide(255).L, call(3, 0))...)), 0, 0, api.ErrGraph)
	worked(t, "too many nodes, and none", all(of(append(wide(5000).L, call(1, 0))...)), 0, 0, api.ErrGraph)
}

func TestDepth(t *testing.T) {
	for deep := range 3 * api.MaxDepth {
		if deep <= api.MaxDepth {
			worked(t, text(deep, " deep"), chain(deep), 0, 2*deep+1, api.OK)
			continue
		}
		worked(t, text(deep, " deep"), chain(deep), 0, 0, api.ErrDepth)
	}
	l := chain(api.MaxDepth + 1)
	l[0] = of(param(), call(2, 0), call(api.MaxDepth+1, 0), call(2, 0))
	worked(t, "a way that leaves one out", l, 0, 4+1+2*(2*api.MaxDepth-1), api.OK)
	l[0].L = append(l[0].L, call(1, 0))
	worked(t, "one of several ways too deep", l, 0, 0, api.ErrDepth)
	l[0].L[1], l[0].L[4] = l[0].L[4], l[0].L[1]
	worked(t, "the first of several ways too deep", l, 0, 0, api.ErrDepth)
	empty := chain(api.MaxDepth + 1)
	empty[api.MaxDepth+1] = of()
	worked(t, "too deep to a graph without nodes", empty, 0, 0, api.ErrDepth)
}

// TestDepthGoesFirst: also where the work is too much long before it is too deep.
func TestDepthGoesFirst(t *testing.T) {
	l := chain(api.MaxDepth + 1)
	l[0].L = append(l[0].L, wide(5000).L...)
	worked(t, "too many nodes, and too deep", l, 0, 0, api.ErrDepth)
	for i := range l[:api.MaxDepth+1] {
		l[i] = often(255, i+1)
	}
	worked(t, "too much work, and too deep", l, 0, 0, api.ErrDepth)
	worked(t, "too much work alone", l, 1, 0, api.ErrWork)
}

func TestRound(t *testing.T) {
	worked(t, "itself", all(of(param(), call(0, 0))), 0, 0, api.ErrDepth)
	worked(t, "each other", all(of(param(), call(1, 0)), of(param(), call(0, 0))), 0, 0, api.ErrDepth)
	worked(t, "each other, often", all(often(255, 1), often(255, 0)), 0, 0, api.ErrDepth)
	worked(t, "one that Calls itself", all(of(param()), often(1, 2), often(1, 2)), 1, 0, api.ErrDepth)
	worked(t, "none that Calls itself", all(of(param()), often(1, 2), often(1, 2)), 0, 1, api.OK)
	worked(t, "a great ring", append(chain(1000)[:1000], of(call(0, 0))), 500, 0, api.ErrDepth)
}

// TestItEndsSoon: where to go through each Call by itself, or by calls of the program within calls, would take too long or too much.
func TestItEndsSoon(t *testing.T) {
	every := make([]api.Graph, 200)
	for i := range every {
		for k := range every {
			every[i].L = append(every[i].L, call(k, 0), call(k, 0))
		}
	}
	worked(t, "all Call all", every, 3, 0, api.ErrDepth)
	every[150].L[7].No = 200
	worked(t, "all Call all, and one none", every, 3, 0, api.ErrGraph)
	long := chain(300000)
	worked(t, "a long way", long, 0, 0, api.ErrDepth)
	worked(t, "a long way to a Call of none", long[:300000], 0, 0, api.ErrGraph)
	worked(t, "the end of a long way", long, 299999, 3, api.OK)
	for i := range 16 {
		var l []api.Graph
		for k := range 16 {
			l = append(l, often(255, (k*7+i)%16))
		}
		worked(t, "graphs at all limits", l, i, 0, api.ErrDepth)
	}
}

func TestWorkAtTheLimit(t *testing.T) {
	for _, c := range []struct {
		what string
		l    []api.Graph
		many int
	}{
		{"one graph", all(wide(api.MaxWork)), api.MaxWork},
		{"one node more", all(wide(api.MaxWork + 1)), api.MaxWork + 1},
		{"far more nodes", all(wide(100000)), 100000},
		{"Calls", all(often(63, 1), wide(64)), 64 + 63*64},
		{"Calls, one node less", all(of(often(63, 1).L[1:]...), wide(64)), 63 + 63*64},
		{"Calls, one node more", all(of(append(often(63, 1).L, leaf(0))...), wide(64)), 65 + 63*64},
		{"Calls of one node", all(often(2047, 1), of(param())), 2048 + 2047},
		{"Calls of one node, and one more", all(often(2048, 1), of(param())), 2049 + 2048},
		{"Calls of nothing", all(often(4095, 1), of()), 4096},
		{"Calls of nothing, and one more", all(often(4096, 1), of()), 4097},
		{"three deep", all(often(12, 1), often(12, 2), often(12, 3), of(param())), 13 + 12*(13+12*(13+12))},
		{"three deep, more", all(often(16, 1), often(16, 2), often(16, 3), of(param())), 17 + 16*(17+16*(17+16))},
	} {
		if c.many > api.MaxWork {
			worked(t, c.what, c.l, 0, 0, api.ErrWork)
			continue
		}
		worked(t, c.what, c.l, 0, c.many, api.OK)
	}
}

// TestWorkPastAllNumbers: 256 Calls of 256 Calls, and so on, are 2^64, which is 0 where it wraps round; with the graphs at the end nodes are as many as one likes.
func TestWorkPastAllNumbers(t *testing.T) {
	for _, many := range ints(2, 16, 255, 256, 1024) {
		for _, end := range ints(0, 1, 2, 256, 65536) {
			var l []api.Graph
			for i := range api.MaxDepth {
				l = append(l, of(often(many, i+1).L[1:]...))
			}
			l = append(l, wide(end))
			for g := range api.MaxDepth + 1 {
				reckoned(t, l, g)
			}
		}
	}
}

// reckoned wants what Work answers to be what comes of numbers without an end, for graphs that Call later ones alone.
func reckoned(t *testing.T, l []api.Graph, g int) {
	t.Helper()
	work, deep := make([]*big.Int, len(l)), make([]int, len(l))
	for i, g := range slices.Backward(l) {
		work[i] = big.NewInt(int64(len(g.L)))
		for _, n := range g.L {
			if n.Op == api.Call {
				work[i].Add(work[i], work[n.No])
				deep[i] = max(deep[i], deep[n.No]+1)
			}
		}
	}
	switch {
	case deep[g] > api.MaxDepth:
		worked(t, "too deep", l, g, 0, api.ErrDepth)
	case work[g].Cmp(big.NewInt(api.MaxWork)) > 0:
		worked(t, "too much work", l, g, 0, api.ErrWork)
	default:
		worked(t, "well", l, g, int(work[g].Int64()), api.OK)
	}
}

// TestWorkOfMany: graphs that Call later ones, few or many of them, near and far.
func TestWorkOfMany(t *testing.T) {
	s := seeds(1)
	for range 3000 {
		l := make([]api.Graph, 1+s.below(20))
		for i := range l {
			l[i] = wide(s.below(8))
			for range s.below(4) * s.below(3) {
				if far := i + 1 + s.below(9); far < len(l) {
					l[i].L = append(l[i].L, call(far, 0), leaf(0))
				}
			}
		}
		for g := range l {
			reckoned(t, l, g)
		}
	}
}

// stepped goes through each Call by itself, so deep at most; it answers how many nodes there are, whether it came to a Call of none, and whether it is deeper.
func stepped(l []api.Graph, g, left int) (many int, none, deeper bool) {
	many = len(l[g].L)
	for _, n := range l[g].L {
		switch {
		case n.Op != api.Call:
		case n.No < 0 || n.No >= len(l):
			none = true
		case left == 0:
			deeper = true
		default:
			m, a, b := stepped(l, n.No, left-1)
			many, none, deeper = many+m, none || a, deeper || b
		}
	}
	return many, none, deeper
}

// TestAllThree: three graphs with at most two Calls each, of themselves, of each other or of none.
func TestAllThree(t *testing.T) {
	graphs := all(of(param()), of())
	for a := -1; a < 4; a++ {
		graphs = append(graphs, of(param(), call(a, 0)))
		for b := -1; b < 4; b++ {
			graphs = append(graphs, of(call(a, 0), call(b, 0)))
		}
	}
	for _, a := range graphs {
		for _, b := range graphs {
			for _, c := range graphs {
				l := all(a, b, c)
				many, none, deeper := stepped(l, 0, api.MaxDepth)
				switch {
				case none:
					worked(t, text(l), l, 0, 0, api.ErrGraph)
				case deeper:
					worked(t, text(l), l, 0, 0, api.ErrDepth)
				default:
					worked(t, text(l), l, 0, many, api.OK)
				}
			}
		}
	}
}
