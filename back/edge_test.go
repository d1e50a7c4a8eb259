package back

import (
	"slices"
	"testing"

	"backstitch/api"
)

// adding is a graph of so many nodes: the first, and then each the sum of the one ahead of it and of the first, which is so many times the first.
func adding(first api.Node, many int) api.Graph {
	g := of(first)
	for at := 1; at < many; at++ {
		g.L = append(g.L, node(api.Add, at-1, 0))
	}
	return g
}

// TestNoLeaves: none are needed where none are named; without a graph there is nothing.
func TestNoLeaves(t *testing.T) {
	x := row(1, 2)
	comes(t, "a Param", asking(all(of(param(), node(api.Neg, 0))), nil, x).param(x), row(-1, -2))
	comes(t, "a constant", asking(all(of(constant(x))), nil, x), none())
	comes(t, "a Call", asking(all(of(constant(x), call(1, 0)), square()), nil, x), none())
	for _, g := range ints(-1, 0, 1) {
		for _, l := range [][]api.Graph{nil, {}} {
			refused(t, "no graphs", Ask{Graphs: l, Graph: g, Seed: x, Param: x}, api.ErrGraph)
			refused(t, "no graphs, but a leaf", Ask{Graphs: l, Leaves: list(x), Graph: g, Seed: x, Param: x, Stale: []bool{false}}, api.ErrGraph)
		}
	}
}

func TestManyNodes(t *testing.T) {
	x, seed := row(2, 3), row(1, -10)
	for many := 1; many <= api.MaxNodes; many++ {
		want := row(float64(many), -10*float64(many))
		comes(t, text(many, " nodes"), asking(all(adding(leaf(0), many)), list(x), seed), none(), want)
		comes(t, text(many, " nodes of a Param"), asking(all(adding(param(), many)), nil, seed).param(x), want)
	}
	refused(t, "one node more", asking(all(adding(leaf(0), api.MaxNodes+1)), list(x), seed), api.ErrLimit)
	half := api.MaxNodes / 2
	comes(t, "as many Leaf nodes as may be", asking(all(of(gathering(wide(half).L, 0, half)...)), list(x), seed), none(), row(float64(half), -10*float64(half)))
	calls := of(append(wide(1).L, slices.Repeat([]api.Node{call(1, 0)}, half-1)...)...)
	comes(t, "as many Calls as may be", asking(all(of(gathering(calls.L, 0, half)...), double()), list(x), seed), none(), row(float64(2*half-1), -10*float64(2*half-1)))
}

func TestManyGraphs(t *testing.T) {
	var l []api.Graph
	for g := range api.MaxGraphs {
		l = append(l, of(param(), hooked(node(api.Neg, 0), scale(float64(g+1)))))
	}
	l[3] = of(param(), call(api.MaxGraphs-1, 0), call(0, 1))
	for g := range l {
		want := row(-float64(g + 1))
		if g == 3 {
			want = row(16)
		}
		a := asking(l, nil, row(1)).param(row(7))
		comes(t, text("graph ", g, " of as many as may be"), a.graph(g), want)
		a.Graphs = append(slices.Clone(l), of(param()))
		refused(t, text("graph ", g, " of one more"), a.graph(g), api.ErrLimit)
	}
}

func TestManyLeaves(t *testing.T) {
	var leaves, want []api.Tensor
	var g api.Graph
	for i := range api.MaxLeaves {
		leaves = append(leaves, row(float64(i), -1))
		want = append(want, row(float64(i+1), 2*float64(i+1)))
		g.L = append(g.L, hooked(leaf(i), scale(float64(i+1))))
	}
	g = of(gathering(g.L, 0, api.MaxLeaves)...)
	a := asking(all(g), leaves, row(1, 2))
	comes(t, "as many leaves as may be", a, none(), want...)
	a.Leaves, a.Stale = append(slices.Clone(leaves), row(1)), make([]bool, api.MaxLeaves+1)
	refused(t, "one leaf more", a, api.ErrLimit)
}

// TestMuchWork: as many nodes as one call may go through, wide and deep; and one more.
func TestMuchWork(t *testing.T) {
	x, seed := row(2, 3), row(1, -10)
	calls := gathering(append([]api.Node{leaf(0)}, slices.Repeat([]api.Node{call(1, 0)}, 64)...), 1, 64)
	l := all(of(calls...), adding(param(), 62))
	a := asking(l, list(x), seed)
	comes(t, "wide", a, none(), row(64*62, -640*62))
	a.Graphs = all(l[0], adding(param(), 63))
	refused(t, "wide, and more", a, api.ErrWork)
	var deep []api.Graph
	for i := range api.MaxDepth {
		deep = append(deep, of(param(), call(i+1, 0), call(i+1, 0), node(api.Add, 1, 2)))
	}
	deep[0].L = append(deep[0].L, node(api.Neg, 3), node(api.Neg, 4), node(api.Neg, 5), node(api.Neg, 6))
	deep = append(deep, adding(param(), 12))
	b := asking(deep, list(x), seed).param(x)
	comes(t, "deep", b, row(256*12, -2560*12), row(0, 0))
	fails(t, "deep, and one too deep", b.deep(api.MaxDepth-1), 2, api.ErrDepth)
	b.Graphs[0].L = append(b.Graphs[0].L, node(api.Neg, 7))
	refused(t, "deep, and more", b.graph(0), api.ErrWork)
}

// TestMuchWorkOfGreatTensors: with as many numbers in each, it ends soon, too.
func TestMuchWorkOfGreatTensors(t *testing.T) {
	x := counted(64, 64)
	calls := gathering(append([]api.Node{leaf(0)}, slices.Repeat([]api.Node{call(1, 0)}, 64)...), 1, 64)
	want := counted(64, 64)
	for i := range want.Data {
		want.Data[i] *= 64 * 62
	}
	comes(t, "all numbers in all nodes", asking(all(of(calls...), adding(param(), 62)), list(filled(1, 64, 64)), x), none(), want)
}

// TestManyLeavesInManyCalls: as many leaves as may be, as great as may be, and two thousand Calls, each of which has something for each leaf; all of that at one time would be gigabytes.
func TestManyLeavesInManyCalls(t *testing.T) {
	const calls = 123
	var l []api.Graph
	for i := range api.MaxDepth {
		nodes := append([]api.Node{leaf(i), call(i+1, 0)}, slices.Repeat([]api.Node{call(api.MaxDepth+1, 0)}, calls)...)
		l = append(l, of(gathering(nodes, 1, calls+1)...))
	}
	l = append(l, of(leaf(api.MaxLeaves-1)), of(leaf(10), leaf(11)))
	leaves := slices.Repeat(list(filled(1, 64, 64)), api.MaxLeaves)
	want := slices.Repeat(list(filled(0, 64, 64)), api.MaxLeaves)
	want[11], want[api.MaxLeaves-1] = filled(2*calls*api.MaxDepth, 64, 64), filled(2, 64, 64)
	comes(t, "great leaves", asking(l, leaves, filled(2, 64, 64)), none(), want...)
}

func TestGreatTensors(t *testing.T) {
	x, ones := counted(4096), filled(1, 64, 64)
	cube := tens(ints(8, 8, 8, 8), x.Data...)
	twice := counted(4096)
	for i := range twice.Data {
		twice.Data[i] *= 2
	}
	sums := all(of(param(), to(api.Reshape, 0, 8, 8, 8, 8), leaf(0), node(api.Mul, 1, 2), node(api.Sum, 3)))
	comes(t, "as great as may be", asking(sums, list(cube), row(2)).param(x), twice, tens(ints(8, 8, 8, 8), twice.Data...))
	comes(t, "a great product", asking(all(of(leaf(0), leaf(0), node(api.Matmul, 0, 1))), list(ones), ones), none(), filled(128, 64, 64))
	narrow := all(of(leaf(0), leaf(1), node(api.Matmul, 0, 1)))
	comes(t, "of one and one", asking(narrow, list(filled(3, 64, 1), filled(2, 1, 64)), ones), none(), filled(128, 64, 1), filled(192, 1, 64))
	one := all(of(leaf(0), to(api.Broadcast, 0, 4096)))
	comes(t, "one for all", asking(one, list(single(1)), x), none(), single(4096*4097/2))
	comes(t, "the root alone", asking(one, list(x), x).from(0), none(), x)
	refused(t, "a seed that is too great", asking(one, list(single(1)), counted(4097)), api.ErrShape)
	refused(t, "a leaf that is too great", asking(one, list(counted(4097)), x), api.ErrLeaf)
}

// TestSmallTensors: of each number of places, with one number.
func TestSmallTensors(t *testing.T) {
	for places := range api.MaxDims + 1 {
		one := func(x float64) api.Tensor { return filled(x, slices.Repeat(ints(1), places)...) }
		l := all(of(param(), leaf(0), node(api.Mul, 0, 1), call(1, 2)), square())
		comes(t, text(places, " places"), asking(l, list(one(3)), one(1)).param(one(2)), one(2*6*3), one(2*6*2))
	}
}
