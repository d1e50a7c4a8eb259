package graph

import (
	"math"
	"slices"
	"testing"

	"backstitch/api"
	"backstitch/op"
)

// TestShapesOfEachOperator: of leaves (2, 1), (3) and (2, 2).
func TestShapesOfEachOperator(t *testing.T) {
	leaves := sizes(ints(2, 1), ints(3), ints(2, 2))
	for _, c := range []struct {
		n    api.Node
		want []int
	}{
		{leaf(0), ints(2, 1)},
		{leaf(1), ints(3)},
		{leaf(2), ints(2, 2)},
		{constant(), nil},
		{constant(2, 3, 4), ints(2, 3, 4)},
		{node(api.Add, 0, 1), ints(2, 3)},
		{node(api.Sub, 1, 0), ints(2, 3)},
		{node(api.Mul, 2, 0), ints(2, 2)},
		{node(api.Div, 0, 0), ints(2, 1)},
		{node(api.Neg, 0), ints(2, 1)},
		{node(api.Exp, 1), ints(3)},
		{node(api.Log, 2), ints(2, 2)},
		{node(api.Relu, 0), ints(2, 1)},
		{node(api.Matmul, 2, 0), ints(2, 1)},
		{node(api.Matmul, 2, 2), ints(2, 2)},
		{node(api.Sum, 2), ints(1)},
		{to(api.Broadcast, 1, 5, 3), ints(5, 3)},
		{to(api.Reshape, 2, 4, 1), ints(4, 1)},
		{call(1, 2), ints(1)},
	} {
		l := all(of(leaf(0), leaf(1), leaf(2), c.n), of(param(), node(api.Sum, 0)))
		shaped(t, text("operator ", c.n.Op), l, leaves, 0, nil, append(slices.Clone(leaves), c.want))
	}
}

// TestParamShape: what is handed in, where node 0 is a Param; else it is not asked.
func TestParamShape(t *testing.T) {
	l := all(of(param(), node(api.Neg, 0), node(api.Sum, 1)), of(constant(2)))
	for _, s := range someShapes() {
		shaped(t, text("param ", s), l, nil, 0, s, sizes(s, s, ints(1)))
		shaped(t, text("param ", s, ", no Param"), l, nil, 1, s, sizes(ints(2)))
	}
	for _, s := range wrongShapes() {
		unshaped(t, text("param ", s), l, nil, 0, s, api.ErrShape)
		unshaped(t, text("param ", s, ", a Param alone"), all(of(param())), nil, 0, s, api.ErrShape)
		shaped(t, text("param ", s, ", no Param"), l, nil, 1, s, sizes(ints(2)))
		shaped(t, text("param ", s, ", a Param in what is Called"), all(of(constant(2), call(1, 0)), of(param())), nil, 0, s, sizes(ints(2), ints(2)))
	}
}

// TestCalledShapes: that of the last node, with the shape of the Call's input where there is a Param, each time anew.
func TestCalledShapes(t *testing.T) {
	leaves := sizes(ints(2, 1), ints(3))
	l := all(
		of(param(), node(api.Sum, 0), node(api.Neg, 0)),
		of(leaf(1)),
		of(leaf(1), node(api.Sum, 0)),
		of(param(), call(0, 0), call(1, 1), node(api.Add, 1, 2)),
		of(leaf(0), call(0, 0), call(1, 0), call(2, 0), call(3, 0), leaf(1), call(0, 5), call(3, 5), call(3, 4)),
		of(param(), constant(4, 1), call(0, 1), call(0, 0)),
	)
	shaped(t, "no Calls", l, leaves, 0, ints(7), sizes(ints(7), ints(1), ints(7)))
	shaped(t, "Calls within a Call", l, leaves, 3, ints(2, 1), sizes(ints(2, 1), ints(2, 1), ints(3), ints(2, 3)))
	shaped(t, "Calls of all", l, leaves, 4, nil, sizes(ints(2, 1), ints(2, 1), ints(3), ints(1), ints(2, 3), ints(3), ints(3), ints(3), ints(2, 3)))
	shaped(t, "Calls beside a Param of another shape", l, leaves, 5, ints(9), sizes(ints(9), ints(4, 1), ints(4, 1), ints(9)))
}

// TestShapesDeep: as deep as may be each Call adds a place, or a number.
func TestShapesDeep(t *testing.T) {
	l := chain(api.MaxDepth)
	for i := range l {
		l[i].L = append(l[i].L, node(api.Add, 0, len(l[i].L)-1))
	}
	last := len(l) - 1
	l[last] = of(param(), to(api.Broadcast, 0, 5, 2))
	shaped(t, "deep as may be", l, nil, 0, ints(2), sizes(ints(2), ints(5, 2), ints(5, 2)))
	l = append(l, of(param(), call(0, 0)))
	unshaped(t, "one deeper", l, nil, last+1, ints(2), api.ErrDepth)
	shaped(t, "deep as may be, beside one deeper", l, nil, 0, ints(2), sizes(ints(2), ints(5, 2), ints(5, 2)))
	l[last] = of(param(), to(api.Broadcast, 0, 5, 3))
	unshaped(t, "what does not fit at the bottom", l, nil, 0, ints(2), api.ErrShape)
	shaped(t, "what fits at the bottom", l, nil, 0, ints(1), sizes(ints(1), ints(5, 3), ints(5, 3)))
}

func TestShapesAtTheLimits(t *testing.T) {
	leaves := sizes(ints(3))
	shaped(t, "as many nodes as may be", all(wide(api.MaxNodes)), leaves, 0, nil, slices.Repeat(leaves, api.MaxNodes))
	shaped(t, "as much work as may be", all(often(63, 1), wide(64)), leaves, 0, ints(2), append(sizes(ints(2)), slices.Repeat(leaves, 63)...))
	unshaped(t, "one node more", all(of(append(often(63, 1).L, leaf(0))...), wide(64)), leaves, 0, ints(2), api.ErrWork)
	most := slices.Repeat(all(of(param())), api.MaxGraphs)
	shaped(t, "as many graphs as may be", most, nil, api.MaxGraphs-1, ints(2), sizes(ints(2)))
	unshaped(t, "one graph more", append(most, of(param())), nil, 0, ints(2), api.ErrLimit)
}

// TestShapesOfNoGraph: Check's error goes first, then that of a graph that is none, of Calls too deep, of too much work.
func TestShapesOfNoGraph(t *testing.T) {
	for _, g := range ints(math.MinInt, -1, 2, 3, 1<<32, math.MaxInt) {
		unshaped(t, text("graph ", g), all(of(param()), of(param())), nil, g, ints(0), api.ErrGraph)
		unshaped(t, text("graph ", g, " and a bad one"), all(of(param()), of(node(0))), nil, g, ints(0), api.ErrOp)
	}
	unshaped(t, "no graphs", nil, nil, 0, nil, api.ErrGraph)
	unshaped(t, "too many leaves and no graphs", nil, make([][]int, api.MaxLeaves+1), 0, nil, api.ErrLimit)
	unshaped(t, "itself, and a param that may not be", all(of(param(), call(0, 0))), nil, 0, ints(0), api.ErrDepth)
	unshaped(t, "each other, often", all(often(255, 1), often(255, 0)), nil, 0, ints(2), api.ErrDepth)
	unshaped(t, "itself, and a bad one elsewhere", all(of(param(), call(0, 0)), of(leaf(0))), nil, 0, nil, api.ErrLeaf)
	unshaped(t, "too much work, and a param that may not be", all(often(64, 1), wide(64)), sizes(ints(1)), 0, ints(0), api.ErrWork)
	unshaped(t, "too much work, and shapes that do not fit", all(of(param(), to(api.Reshape, 0, 3), call(1, 0)), often(255, 2), wide(64)), sizes(ints(1)), 0, ints(2), api.ErrWork)
	unshaped(t, "too deep, and shapes that do not fit", all(of(param(), to(api.Reshape, 0, 3), call(0, 0))), nil, 0, ints(2), api.ErrDepth)
	shaped(t, "itself elsewhere", all(of(param()), of(param(), call(1, 0))), nil, 0, ints(2), sizes(ints(2)))
}

// Nodes that are well, of which an input (2, 1) makes an error of one kind.
func misshapen() api.Node { return node(api.Matmul, 0, 0) }

func missized() api.Node { return to(api.Reshape, 0, 3) }

// TestFirstShapeError: that of the lowest node; within a Call of its graph's lowest, be it one that its last node does not need.
func TestFirstShapeError(t *testing.T) {
	leaves := sizes(ints(2, 1), ints(0))
	p, a, b := param(), misshapen(), missized()
	wrongTo := to(api.Broadcast, 0, 0)
	greatTo := to(api.Reshape, 0, 4097)
	for _, c := range []struct {
		what string
		l    []api.Graph
		want api.Errno
	}{
		{"a shape", all(of(leaf(0), a)), api.ErrShape},
		{"a size", all(of(leaf(0), b)), api.ErrSize},
		{"a shape ahead of a size", all(of(leaf(0), a, b)), api.ErrShape},
		{"a size ahead of a shape", all(of(leaf(0), b, a)), api.ErrSize},
		{"a To that may not be", all(of(leaf(0), wrongTo)), api.ErrShape},
		{"a To that is too great", all(of(leaf(0), greatTo)), api.ErrSize},
		{"a product that is too great", all(of(constant(128, 1), constant(1, 128), node(api.Matmul, 0, 1))), api.ErrSize},
		{"a sum that is too great", all(of(constant(128, 1), constant(128), node(api.Add, 0, 1))), api.ErrSize},
		{"what does not go together", all(of(constant(2), constant(3), node(api.Add, 0, 1))), api.ErrShape},
		{"a shape within a Call", all(of(leaf(0), call(1, 0)), of(p, a)), api.ErrShape},
		{"a size within a Call", all(of(leaf(0), call(1, 0)), of(p, b)), api.ErrSize},
		{"a size within a Call ahead of a shape", all(of(leaf(0), call(1, 0), a), of(p, b)), api.ErrSize},
		{"a shape ahead of a size within a Call", all(of(leaf(0), a, call(1, 0)), of(p, b)), api.ErrShape},
		{"the first of two Calls", all(of(leaf(0), call(1, 0), call(2, 0)), of(p, b), of(p, a)), api.ErrSize},
		{"the first of two Calls, which is of a later one", all(of(leaf(0), call(2, 0), call(1, 0)), of(p, b), of(p, a)), api.ErrShape},
		{"the lowest within a Call", all(of(leaf(0), call(1, 0)), of(p, b, a)), api.ErrSize},
		{"two Calls deep", all(of(leaf(0), call(1, 0), a), of(p, call(2, 0), a), of(p, b, a)), api.ErrSize},
		{"behind a Call that is well", all(of(leaf(0), call(1, 0), b, a), of(p)), api.ErrSize},
		{"not needed by the last one", all(of(leaf(0), call(1, 0)), of(p, b, node(api.Neg, 0))), api.ErrSize},
		{"what one input fits and another does not", all(of(leaf(0), constant(3), call(1, 1), call(1, 0)), of(p, b)), api.ErrSize},
		{"a Call without a Param", all(of(leaf(0), call(1, 0)), of(leaf(0), b)), api.ErrSize},
		{"what comes of a Call", all(of(leaf(0), call(1, 0), to(api.Reshape, 1, 2)), of(p, node(api.Sum, 0))), api.ErrSize},
	} {
		unshaped(t, c.what, c.l, leaves, 0, nil, c.want)
	}
	unshaped(t, "a param that may not be, ahead of a size", all(of(p, b)), leaves, 0, ints(0), api.ErrShape)
	unshaped(t, "a size, beside a param that is not asked", all(of(leaf(0), b)), leaves, 0, ints(0), api.ErrSize)
	shaped(t, "what does not fit elsewhere", all(of(leaf(0)), of(leaf(0), b)), leaves, 0, nil, sizes(ints(2, 1)))
}

// valued reckons tensors node by node, as far as the first error: their shapes are those of the nodes.
func valued(l []api.Graph, leaves [][]int, g int, param api.Tensor) ([]api.Tensor, api.Errno) {
	var made []api.Tensor
	for _, n := range l[g].L {
		var in []api.Tensor
		for _, at := range n.In {
			in = append(in, made[at])
		}
		x, e := param, api.OK
		switch n.Op {
		case api.Param:
		case api.Leaf:
			x = noughts(leaves[n.No]...)
		case api.Call:
			inner, inside := valued(l, leaves, n.No, in[0])
			x, e = append(inner, api.Tensor{})[max(0, len(inner)-1)], inside
		default:
			x, e = op.Value(n, in)
		}
		if e != api.OK {
			return nil, e
		}
		made = append(made, x)
	}
	return made, api.OK
}

// picked is a node that is well at a place in graph g, which Calls earlier graphs alone; its shapes may fit or not.
func picked(s *seeds, g, at int, shapes [][]int) api.Node {
	n := plain(api.Leaf + s.below(api.Call))
	n.No = s.below(len(shapes))
	n.To = shapes[s.below(len(shapes))]
	n.Val = noughts(shapes[s.below(len(shapes))]...)
	n.In = slices.Clone(n.In)
	for i := range n.In {
		n.In[i] = s.below(max(at, 1))
	}
	switch {
	case len(n.In) > 0 && at == 0, n.Op == api.Param && at > 0, n.Op == api.Call && g == 0:
		return constant(shapes[n.No]...)
	case n.Op == api.Call:
		n.No = s.below(g)
	}
	return n
}

// TestShapesAreThoseOfValues: of many graphs, each grown node by node; what does not fit is tried too, and then mostly left out.
func TestShapesAreThoseOfValues(t *testing.T) {
	s := seeds(7)
	leaves := sizes(ints(2, 1), ints(3), ints(1), nil, ints(2, 2), ints(1, 3), ints(2, 3), ints(6), ints(64, 64))
	seen := map[api.Errno]int{}
	for range 400 {
		var l []api.Graph
		for g := range 4 {
			l = append(l, of())
			for range 1 + s.below(12) {
				n := picked(&s, g, len(l[g].L), leaves)
				l[g].L = append(l[g].L, n)
				p := leaves[s.below(len(leaves))]
				seen[likeValues(t, l, leaves, g, p)]++
				if _, e := Shapes(l, leaves, g, p); e != api.OK && s.below(10) > 0 {
					l[g].L = slices.Delete(l[g].L, len(l[g].L)-1, len(l[g].L))
				}
			}
			if len(l[g].L) == 0 {
				l[g] = of(constant(2))
			}
		}
	}
	if seen[api.OK] < 1000 || seen[api.ErrShape] < 100 || seen[api.ErrSize] < 100 {
		t.Errorf("too few of some: %v", seen)
	}
}

// likeValues wants Shapes to answer what values have, and answers the error of both.
func likeValues(t *testing.T, l []api.Graph, leaves [][]int, g int, param []int) api.Errno {
	t.Helper()
	made, e := valued(l, leaves, g, noughts(param...))
	if e != api.OK {
		unshaped(t, text("graph ", g), l, leaves, g, param, e)
		return e
	}
	var want [][]int
	for _, x := range made {
		want = append(want, x.Shape)
	}
	shaped(t, text("graph ", g), l, leaves, g, param, want)
	return e
}
