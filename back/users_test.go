package back

import (
	"slices"
	"testing"

	"backstitch/api"
	"backstitch/fold"
)

// TestUse: what is used by several, twice by one, by some that the root does not reach, by none.
func TestUse(t *testing.T) {
	x, y := row(2, -3), single(10)
	leaves := list(x, y)
	seed := row(1, 100)
	nx, ny := row(0, 0), single(0)
	for _, c := range []struct {
		what string
		g    api.Graph
		want []api.Tensor
	}{
		{"one node twice", of(leaf(0), node(api.Mul, 0, 0)), list(row(4, -600), ny)},
		{"one node twice, and that one twice", of(leaf(0), node(api.Add, 0, 0), node(api.Add, 1, 1)), list(row(4, 400), ny)},
		{"by several", of(leaf(0), node(api.Neg, 0), node(api.Mul, 0, 0), node(api.Sub, 2, 1), node(api.Add, 3, 0)), list(row(4-(-1)+1, -600+100+100), ny)},
		{"by one that is not reached", of(leaf(0), node(api.Mul, 0, 0), node(api.Neg, 0)), list(row(-1, -100), ny)},
		{"by none", of(leaf(0), leaf(1), node(api.Neg, 0)), list(row(-1, -100), ny)},
		{"the root alone", of(leaf(1), node(api.Exp, 0), leaf(0)), list(seed, ny)},
		{"a constant", of(leaf(0), constant(row(3, 5)), node(api.Mul, 1, 0)), list(row(3, 500), ny)},
		{"a constant alone", of(leaf(0), constant(x), node(api.Neg, 1)), list(nx, ny)},
		{"both leaves", of(leaf(0), leaf(1), node(api.Mul, 0, 1)), list(row(10, 1000), single(2-300))},
		{"one leaf by several nodes", of(leaf(0), leaf(1), leaf(0), leaf(0), node(api.Mul, 0, 2), node(api.Mul, 4, 1)), list(row(40, -6000), single(4+900))},
		{"one leaf by several nodes, some not reached", of(leaf(0), leaf(0), leaf(1), leaf(1), leaf(0), node(api.Neg, 1)), list(row(-1, -100), ny)},
		{"leaves in another order", of(leaf(1), leaf(0), node(api.Sub, 0, 1)), list(row(-1, -100), single(101))},
	} {
		comes(t, c.what, asking(all(c.g), leaves, seed), none(), c.want...)
		comes(t, c.what+", between others", asking(all(of(leaf(1)), c.g, of(param())), leaves, seed).graph(1), none(), c.want...)
		behind := of(append(slices.Clone(c.g.L), node(api.Neg, 0), leaf(1), node(api.Sub, len(c.g.L), len(c.g.L)-1))...)
		comes(t, c.what+", with nodes above the root", asking(all(behind), leaves, seed).from(len(c.g.L)-1), none(), c.want...)
	}
}

// TestEachRoot: of one graph.
func TestEachRoot(t *testing.T) {
	l := all(of(param(), leaf(0), node(api.Mul, 0, 1), node(api.Sum, 2), node(api.Mul, 3, 2), leaf(0)))
	x, p := row(2, 3), row(5, 7)
	a := asking(l, list(x), none()).param(p)
	want := func(root int, seed, param, leaf api.Tensor) {
		t.Helper()
		a.Seed = seed
		comes(t, text("root ", root), a.from(root), param, leaf)
	}
	no := row(0, 0)
	want(0, row(11, 13), row(11, 13), no)
	want(1, row(11, 13), no, row(11, 13))
	want(2, row(1, 10), row(2, 30), row(5, 70))
	want(3, row(10), row(20, 30), row(50, 70))
	want(4, row(1, 10), row(2*(31+220), 3*(310+220)), row(5*(31+220), 7*(310+220)))
	want(5, row(11, 13), no, row(11, 13))
}

// mixed is so many numbers, by a rule, so that each run has the same: such that a sum of them hangs on its order.
func mixed(many int, seed uint64) []float64 {
	s := seeds(seed)
	l := make([]float64, many)
	for i := range l {
		kinds := []float64{huge, -huge, 1, 2.5, -3, 1 << 30, -0.1}
		l[i] = kinds[s.below(len(kinds))] * float64(1+s.below(3))
	}
	return l
}

// folded is the fold of single numbers.
func folded(t *testing.T, l []float64) api.Tensor {
	t.Helper()
	var terms []api.Tensor
	for _, x := range l {
		terms = append(terms, single(x))
	}
	sum, e := fold.Tree(terms)
	if e != api.OK {
		t.Fatal(e)
	}
	return sum
}

// gathering is nodes that add up those from first on, each with the seed as its gradient.
func gathering(l []api.Node, first, many int) []api.Node {
	sum := first
	for i := 1; i < many; i++ {
		l = append(l, node(api.Add, sum, first+i))
		sum = len(l) - 1
	}
	return l
}

// TestOrderOfUsers: the greatest user's first; each of many numbers of them, so that any other order is seen.
func TestOrderOfUsers(t *testing.T) {
	unlike := 0
	for many := 1; many <= 60; many++ {
		l := mixed(many, uint64(many))
		nodes := []api.Node{leaf(0)}
		inner := []api.Node{param()}
		for _, x := range l {
			nodes = append(nodes, times(x, 0))
			inner = append(inner, times(x, 0))
		}
		upward := folded(t, l)
		slices.Reverse(l)
		want := folded(t, l)
		if !same(want, upward) {
			unlike++
		}
		g, in := of(gathering(nodes, 1, many)...), of(gathering(inner, 1, many)...)
		comes(t, text(many, " users"), asking(all(g), list(single(3)), single(1)), none(), want)
		comes(t, text(many, " users of a Param"), asking(all(in), nil, single(1)).param(single(3)), want)
		comes(t, text(many, " users within a Call"), asking(all(of(leaf(0), call(1, 0)), in), list(single(3)), single(1)), none(), want)
	}
	if unlike < 20 {
		t.Errorf("only %v of all orders can be told", unlike)
	}
}

// TestOrderOfInputs: of one node's two uses that of the first input goes ahead.
func TestOrderOfInputs(t *testing.T) {
	l := func(minus api.Node) []api.Graph {
		return all(of(leaf(0), hooked(minus, scale(huge)), times(1, 0), node(api.Add, 1, 2)))
	}
	comes(t, "huge, then -huge", asking(l(node(api.Sub, 0, 0)), list(single(1)), single(1)), none(), single(0))
	negative := hooked(node(api.Sub, 0, 0), scale(-huge))
	comes(t, "-huge, then huge", asking(all(of(leaf(0), negative, times(1, 0), node(api.Add, 1, 2))), list(single(1)), single(1)), none(), single(1))
}

// TestOrderOfLeaves: of all Leaf nodes of one leaf the greatest one's first; those of others between them change nothing.
func TestOrderOfLeaves(t *testing.T) {
	for many := 1; many <= 60; many++ {
		l := mixed(many, uint64(many)+1000)
		var nodes []api.Node
		for _, x := range l {
			nodes = append(nodes, hooked(leaf(1), scale(x)))
		}
		g := of(gathering(nodes, 0, many)...)
		slices.Reverse(l)
		comes(t, text(many, " nodes"), asking(all(g), list(single(5), single(3), row(1)), single(1)), none(), single(0), folded(t, l), row(0))
		var between []api.Node
		for _, n := range nodes {
			between = append(between, hooked(leaf(0), scale(1)), n)
		}
		two := of(gathering(between, 0, 2*many)...)
		comes(t, text(many, " nodes between others"), asking(all(two), list(single(5), single(3)), single(1)), none(), single(float64(many)), folded(t, l))
	}
}

// TestOrderOfLeavesAndCalls: what comes out of a Call has its place by the Call's node, and is added up within it first.
func TestOrderOfLeavesAndCalls(t *testing.T) {
	for many := 2; many <= 40; many++ {
		l := mixed(3*many, uint64(many)+2000)
		// Each graph but the first names leaf 0 three times, by numbers that are its own; those of the first graph are each third one.
		graphs := all(of())
		var terms []float64
		var nodes []api.Node
		for i := range many {
			part := l[3*i : 3*i+3]
			if i%2 == 0 || len(graphs) == api.MaxGraphs {
				nodes = append(nodes, hooked(leaf(0), scale(part[0])))
				terms = append(terms, part[0])
				continue
			}
			inner := []api.Node{hooked(leaf(0), scale(part[0])), hooked(leaf(0), scale(part[1])), hooked(leaf(0), scale(part[2]))}
			nodes = append(nodes, call(len(graphs), 0))
			graphs = append(graphs, of(gathering(inner, 0, 3)...))
			terms = append(terms, folded(t, []float64{part[2], part[1], part[0]}).Data[0])
		}
		graphs[0] = of(gathering(nodes, 0, many)...)
		// A Call gives noughts to node 0, which is its input, ahead of that node's hooks: they are nothing beside the seed.
		slices.Reverse(terms)
		comes(t, text(many, " nodes"), asking(graphs, list(single(3)), single(1)), none(), folded(t, terms))
	}
}

// TestNoughtsOfCallsCount: a Call gives noughts to each leaf that it does not reach, and they stand in the tree.
func TestNoughtsOfCallsCount(t *testing.T) {
	same, own := of(param()), of(hooked(leaf(0), scale(2)))
	x := single(1)
	comes(t, "-0 alone", asking(all(of(leaf(0))), list(x), single(less)), none(), single(less))
	comes(t, "-0 and a Call", asking(all(of(leaf(0), call(1, 0)), same), list(x), single(less)), none(), single(0))
	comes(t, "-0 by two nodes", asking(all(of(leaf(0), leaf(0), node(api.Add, 0, 1))), list(x), single(less)), none(), single(less))
	comes(t, "-0 within a Call", asking(all(of(constant(x), call(1, 0)), own), list(x), single(less)), none(), single(less))
	comes(t, "-0 within a Call of a Call", asking(all(of(constant(x), call(1, 0)), of(constant(x), call(2, 0)), own), list(x), single(less)), none(), single(less))
	comes(t, "-0 within a Call, and another Call", asking(all(of(constant(x), call(1, 0), call(2, 0), node(api.Add, 1, 2)), own, of(constant(x))), list(x), single(less)), none(), single(0))
	comes(t, "-0 within a Call, and another Call within it", asking(all(of(constant(x), call(1, 0)), of(leaf(0), call(2, 0)), same), list(x), single(less)), none(), single(0))
	comes(t, "a Call that is not reached", asking(all(of(leaf(0), call(1, 0)), same), list(x), single(less)).from(0), none(), single(less))
	// Of 1, 1 and huge the tree is huge + 2; with noughts ahead of them it is huge.
	ones := func(calls ...api.Node) []api.Node {
		l := []api.Node{hooked(leaf(0), scale(huge)), hooked(leaf(0), scale(1)), hooked(leaf(0), scale(1))}
		return append(l, calls...)
	}
	sum := func(l []api.Node) []api.Graph {
		first := len(l) - 1
		for first > 2 && l[first].Op == api.Call {
			first--
		}
		return all(of(gathering(l, 0, len(l))...), of(constant(x)))
	}
	comes(t, "1, 1, huge", asking(sum(ones()), list(x), single(1)), none(), single(huge+2))
	comes(t, "nought, 1, 1, huge", asking(sum(ones(call(1, 1))), list(x), single(1)), none(), single(huge))
	comes(t, "two noughts, 1, 1, huge", asking(sum(ones(call(1, 1), call(1, 1))), list(x), single(1)), none(), single(huge))
	comes(t, "three noughts, 1, 1, huge", asking(sum(ones(call(1, 1), call(1, 1), call(1, 1))), list(x), single(1)), none(), single(huge+2))
}
