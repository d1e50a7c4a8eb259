package eval

import (
	"math"
	"slices"
	"testing"

	"backstitch/api"
	"backstitch/graph"
)

// TestEachOperator: as the last node, behind leaves (2, 1), (3) and (2, 2).
func TestEachOperator(t *testing.T) {
	a, b, c := tens(ints(2, 1), 0.1, -3), row(0.2, 5, less), tens(ints(2, 2), 1, 2, 3, 0.7)
	leaves := list(a, b, c)
	third := 1.0 / 3
	for _, x := range []struct {
		n    api.Node
		want api.Tensor
	}{
		{leaf(0), a},
		{leaf(1), b},
		{leaf(2), c},
		{constant(tens(ints(1, 2), third, less)), tens(ints(1, 2), third, less)},
		{constant(single(7)), single(7)},
		{node(api.Add, 0, 1), tens(ints(2, 3), 0.30000000000000004, 5.1, 0.1, -2.8, 2, -3)},
		{node(api.Sub, 0, 1), tens(ints(2, 3), -0.1, -4.9, 0.1, -3.2, -8, -3)},
		{node(api.Sub, 1, 0), tens(ints(2, 3), 0.1, 4.9, -0.1, 3.2, 8, 3)},
		{node(api.Mul, 0, 1), tens(ints(2, 3), 0.020000000000000004, 0.5, less, -0.6000000000000001, -15, 0)},
		{node(api.Div, 0, 1), tens(ints(2, 3), 0.5, 0.02, below, -15, -0.6, inf)},
		{node(api.Div, 1, 0), tens(ints(2, 3), 2, 50, less, -0.06666666666666667, -1.6666666666666667, 0)},
		{node(api.Neg, 1), row(-0.2, -5, 0)},
		{node(api.Exp, 1), row(math.Exp(0.2), math.Exp(5), 1)},
		{node(api.Log, 1), row(math.Log(0.2), math.Log(5), below)},
		{node(api.Log, 0), tens(ints(2, 1), math.Log(0.1), nan)},
		{node(api.Relu, 0), tens(ints(2, 1), 0.1, 0)},
		{node(api.Relu, 1), row(0.2, 5, 0)},
		{node(api.Matmul, 2, 0), tens(ints(2, 1), -5.9, -1.7999999999999996)},
		{node(api.Matmul, 2, 2), tens(ints(2, 2), 7, 3.4, 5.1, 6.49)},
		{node(api.Sum, 0), row(-2.9)},
		{node(api.Sum, 2), row(6.7)},
		{to(api.Broadcast, 0, 2, 2), tens(ints(2, 2), 0.1, 0.1, -3, -3)},
		{to(api.Broadcast, 1, 2, 3), tens(ints(2, 3), 0.2, 5, less, 0.2, 5, less)},
		{to(api.Reshape, 2, 1, 4), tens(ints(1, 4), 1, 2, 3, 0.7)},
		{to(api.Reshape, 1, 3), b},
		{call(1, 2), tens(ints(2, 2), 2, 4, 6, 1.4)},
		{call(2, 0), row(0.2, 5, less)},
	} {
		l := all(of(leaf(0), leaf(1), leaf(2), x.n), of(param(), node(api.Add, 0, 0)), of(leaf(1)))
		valued(t, text("operator ", x.n.Op, " of ", x.n.In), l, leaves, 0, api.Tensor{}, a, b, c, x.want)
	}
	valued(t, "a Param", all(of(param())), leaves, 0, c, c)
}

// TestEachOperatorOfLowerOnes: one after another, each of what the ones ahead of it made.
func TestEachOperatorOfLowerOnes(t *testing.T) {
	l := all(of(
		param(),
		constant(row(3, -1)),
		node(api.Mul, 0, 1),
		node(api.Sub, 2, 0),
		node(api.Relu, 3),
		to(api.Reshape, 4, 1, 2),
		to(api.Reshape, 2, 2, 1),
		node(api.Matmul, 5, 6),
		node(api.Matmul, 6, 5),
		node(api.Sum, 8),
		node(api.Neg, 9),
		to(api.Broadcast, 10, 2),
		node(api.Div, 11, 0),
		node(api.Add, 12, 9),
		node(api.Exp, 13),
		node(api.Log, 14),
	))
	valued(t, "of (1, 2)", l, nil, 0, row(1, 2),
		row(1, 2), row(3, -1), row(3, -2), row(2, -4), row(2, 0), tens(ints(1, 2), 2, 0), tens(ints(2, 1), 3, -2), tens(ints(1, 1), 6), tens(ints(2, 2), 6, 0, -4, 0),
		row(2), row(-2), row(-2, -2), row(-2, -1), row(0, 1), row(1, math.Exp(1)), row(0, 1))
	valued(t, "of (-1, 4)", l, nil, 0, row(-1, 4),
		row(-1, 4), row(3, -1), row(-3, -4), row(-2, -8), row(0, 0), tens(ints(1, 2), 0, 0), tens(ints(2, 1), -3, -4), tens(ints(1, 1), 0), tens(ints(2, 2), 0, 0, 0, 0),
		row(0), row(less), row(less, less), row(0, less), row(0, 0), row(1, 1), row(0, 0))
}

// TestUse: nodes that are used twice by one, by several, by none.
func TestUse(t *testing.T) {
	x := row(2, -3)
	leaves := list(x, single(10))
	for _, c := range []struct {
		what string
		g    api.Graph
		want []api.Tensor
	}{
		{"one node twice", of(leaf(0), node(api.Mul, 0, 0)), list(x, row(4, 9))},
		{"one node twice, and that one twice", of(leaf(0), node(api.Add, 0, 0), node(api.Sub, 1, 1)), list(x, row(4, -6), row(0, 0))},
		{"several of one", of(leaf(0), node(api.Neg, 0), node(api.Add, 0, 0), node(api.Sub, 1, 0)), list(x, row(-2, 3), row(4, -6), row(-4, 6))},
		{"used by none", of(leaf(0), leaf(1), node(api.Neg, 1), node(api.Neg, 0)), list(x, single(10), single(-10), row(-2, 3))},
		{"the last one uses none", of(leaf(0), node(api.Neg, 0), leaf(1)), list(x, row(-2, 3), single(10))},
		{"one leaf by several", of(leaf(0), leaf(1), leaf(0), leaf(0), node(api.Add, 0, 3)), list(x, single(10), x, x, row(4, -6))},
		{"leaves in another order", of(leaf(1), leaf(0), node(api.Sub, 0, 1)), list(single(10), x, row(8, 13))},
		{"inputs in another order", of(leaf(0), leaf(1), node(api.Sub, 1, 0), node(api.Sub, 0, 1)), list(x, single(10), row(8, 13), row(-8, -13))},
		{"a node far away", of(leaf(0), leaf(1), leaf(1), leaf(1), leaf(1), node(api.Neg, 0)), list(x, single(10), single(10), single(10), single(10), row(-2, 3))},
		{"a constant by several", of(constant(x), node(api.Neg, 0), node(api.Relu, 0), node(api.Mul, 0, 2)), list(x, row(-2, 3), row(2, 0), row(4, less))},
		{"one constant in several", of(constant(x), constant(x), node(api.Mul, 0, 1)), list(x, x, row(4, 9))},
	} {
		valued(t, c.what, all(c.g), leaves, 0, api.Tensor{}, c.want...)
		valued(t, c.what+", between others", all(of(leaf(1)), c.g, of(param())), leaves, 1, api.Tensor{}, c.want...)
	}
}

// TestEachGraph: that of the list which is asked, the first, one in the middle, the last.
func TestEachGraph(t *testing.T) {
	var l []api.Graph
	for g := range 7 {
		l = append(l, of(param(), constant(single(float64(g))), node(api.Add, 0, 1)))
	}
	for g := range l {
		x := float64(g)
		valued(t, text("graph ", g), l, nil, g, row(0.5), row(0.5), single(x), row(x+0.5))
	}
}

// TestCalls: what is Called has its own nodes, its own Param, and tells its last node alone.
func TestCalls(t *testing.T) {
	x, y := row(2, 3), single(10)
	leaves := list(x, y)
	square := of(param(), node(api.Mul, 0, 0))
	minus := of(param(), leaf(1), node(api.Sub, 0, 1))
	fixed := of(leaf(0), node(api.Neg, 0))
	for _, c := range []struct {
		what string
		l    []api.Graph
		want []api.Tensor
	}{
		{"one Call", all(of(leaf(0), call(1, 0)), square), list(x, row(4, 9))},
		{"a graph Called often with unlike inputs", all(of(leaf(0), leaf(1), call(1, 1), call(1, 0), call(1, 3), call(1, 0)), square), list(x, y, single(100), row(4, 9), row(16, 81), row(4, 9))},
		{"a Call within a Call", all(of(leaf(0), call(1, 0)), of(param(), call(2, 0), call(2, 1)), square), list(x, row(16, 81))},
		{"Calls of two graphs", all(of(leaf(0), call(1, 0), call(2, 1)), minus, square), list(x, row(-8, -7), row(64, 49))},
		{"without a Param", all(of(leaf(1), call(1, 0), node(api.Mul, 0, 1)), fixed), list(y, row(-2, -3), row(-20, -30))},
		{"without a Param, often", all(of(leaf(1), call(1, 0), call(1, 1)), fixed), list(y, row(-2, -3), row(-2, -3))},
		{"without a Param within a Call", all(of(leaf(1), call(1, 0)), of(param(), call(2, 0), node(api.Add, 0, 1)), fixed), list(y, row(8, 7))},
		{"a Param alone", all(of(leaf(0), call(1, 0)), of(param())), list(x, x)},
		{"a Leaf alone", all(of(leaf(0), call(1, 0)), of(leaf(1))), list(x, y)},
		{"a Const alone", all(of(leaf(0), call(1, 0)), of(constant(row(4)))), list(x, row(4))},
		{"a Param that is not needed", all(of(leaf(0), call(1, 0)), of(param(), leaf(1))), list(x, y)},
		{"a Call as the last node", all(of(leaf(0), call(1, 0)), of(param(), node(api.Neg, 0), call(2, 1)), minus), list(x, row(-12, -13))},
		{"what comes of a Call used twice", all(of(leaf(0), call(1, 0), node(api.Add, 1, 1)), square), list(x, row(4, 9), row(8, 18))},
		{"a Call of an unlike shape", all(of(leaf(0), call(1, 0), node(api.Sub, 0, 1)), of(param(), node(api.Sum, 0))), list(x, row(5), row(-3, -2))},
		{"the same leaf here and there", all(of(leaf(1), leaf(0), call(1, 0), node(api.Sub, 2, 1)), minus), list(y, x, single(0), row(-2, -3))},
	} {
		valued(t, c.what, c.l, leaves, 0, api.Tensor{}, c.want...)
		valued(t, c.what+", behind itself", moved(c.l), leaves, len(c.l), api.Tensor{}, c.want...)
	}
}

// moved is graphs twice, of which the later ones Call each other as the first ones do.
func moved(l []api.Graph) []api.Graph {
	twice := slices.Clone(l)
	for _, g := range l {
		later := slices.Clone(g.L)
		for i, n := range later {
			if n.Op == api.Call {
				later[i].No = n.No + len(l)
			}
		}
		twice = append(twice, of(later...))
	}
	return twice
}

// TestCallsOfEarlierAndLater: where a graph stands in the list does not matter.
func TestCallsOfEarlierAndLater(t *testing.T) {
	l := all(
		of(param(), node(api.Mul, 0, 0)),
		of(param(), call(2, 0), call(0, 1), node(api.Sub, 2, 0)),
		of(param(), node(api.Neg, 0), node(api.Add, 1, 1)),
	)
	x := row(1, 3)
	valued(t, "the first", l, nil, 0, x, x, row(1, 9))
	valued(t, "the one in the middle", l, nil, 1, x, x, row(-2, -6), row(4, 36), row(3, 33))
	valued(t, "the last", l, nil, 2, x, x, row(-1, -3), row(-2, -6))
}

// TestOwnParam: each graph's Param is what it is Called with, not what its caller has; in the caller it stays what it was.
func TestOwnParam(t *testing.T) {
	l := all(
		of(param(), node(api.Neg, 0), call(1, 1), node(api.Add, 0, 2)),
		of(param(), node(api.Add, 0, 0), call(2, 1), node(api.Add, 0, 2)),
		of(param(), constant(single(100)), node(api.Mul, 0, 1)),
	)
	x := row(1, 2)
	valued(t, "three deep", l, nil, 0, x, x, row(-1, -2), row(-201, -402), row(-200, -400))
	valued(t, "two deep", l, nil, 1, x, x, row(2, 4), row(200, 400), row(201, 402))
}

// TestShapesAreTold: the tensors have the shapes that graph.Shapes tells.
func TestShapesAreTold(t *testing.T) {
	l := all(of(param(), leaf(0), node(api.Matmul, 1, 0), node(api.Sum, 2), call(1, 2), to(api.Reshape, 4, 8), to(api.Broadcast, 5, 3, 8)), of(param(), constant(single(1)), node(api.Add, 1, 0)))
	x, y := counted(3, 2), counted(4, 3)
	got, e := All(l, list(y), 0, x)
	want, f := graph.Shapes(l, [][]int{y.Shape}, 0, x.Shape)
	if e != api.OK || f != api.OK || !slices.EqualFunc(got, want, func(t api.Tensor, s []int) bool { return slices.Equal(t.Shape, s) }) {
		t.Errorf("All = %v, %v, want the shapes %v, %v", got, e, want, f)
	}
}
