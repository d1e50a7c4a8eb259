package eval

import (
	"math"
	"slices"
	"testing"

	"backstitch/api"
)

// TestNoLeavesNoGraphs: none are needed where none are named.
func TestNoLeavesNoGraphs(t *testing.T) {
	x := row(1, 2)
	for _, leaves := range [][]api.Tensor{nil, {}, list(x)} {
		valued(t, "no Leaf", all(of(param(), node(api.Neg, 0))), leaves, 0, x, x, row(-1, -2))
		valued(t, "no Leaf, no Param", all(of(constant(x))), leaves, 0, api.Tensor{}, x)
		for _, g := range ints(-1, 0, 1) {
			refused(t, "no graphs", nil, leaves, g, x, api.ErrGraph)
			refused(t, "no graphs", all(), leaves, g, x, api.ErrGraph)
		}
	}
}

func TestNoSuchGraph(t *testing.T) {
	l := all(of(constant(row(1))), of(param()), of(leaf(0)))
	for _, g := range ints(math.MinInt, -1<<32, -2, -1, 3, 4, 1<<32, 1<<32+1, math.MaxInt) {
		refused(t, text("graph ", g), l, list(row(1)), g, row(1), api.ErrGraph)
		refused(t, text("graph ", g, ", a param that may not be"), l, list(row(1)), g, api.Tensor{}, api.ErrGraph)
	}
}

func TestManyNodes(t *testing.T) {
	x := row(2, 3)
	most := wide(api.MaxNodes)
	valued(t, "as many nodes as may be", all(most), list(x), 0, api.Tensor{}, slices.Repeat(list(x), api.MaxNodes)...)
	refused(t, "one node more", all(wide(api.MaxNodes+1)), list(x), 0, api.Tensor{}, api.ErrLimit)
	refused(t, "one node more, elsewhere", all(most, wide(api.MaxNodes+1)), list(x), 0, api.Tensor{}, api.ErrLimit)
	sums, want := of(leaf(0)), list(x)
	for at := 1; at < api.MaxNodes; at++ {
		sums.L = append(sums.L, node(api.Add, at-1, 0))
		want = append(want, row(2*float64(at+1), 3*float64(at+1)))
	}
	valued(t, "each of the one ahead", all(sums), list(x), 0, api.Tensor{}, want...)
}

func TestManyGraphs(t *testing.T) {
	var l []api.Graph
	for g := range api.MaxGraphs {
		l = append(l, of(param(), constant(single(float64(g))), node(api.Add, 0, 1)))
	}
	l[3] = of(param(), call(api.MaxGraphs-1, 0), call(0, 1))
	for g := range l {
		want := list(row(1), single(float64(g)), row(1+float64(g)))
		if g == 3 {
			want = list(row(1), row(16), row(16))
		}
		valued(t, text("graph ", g, " of as many as may be"), l, nil, g, row(1), want...)
	}
	refused(t, "one graph more", append(slices.Clone(l), l[0]), nil, 0, row(1), api.ErrLimit)
	refused(t, "one graph more, that one", append(slices.Clone(l), l[0]), nil, api.MaxGraphs, row(1), api.ErrLimit)
}

func TestManyLeaves(t *testing.T) {
	var leaves []api.Tensor
	var g api.Graph
	for i := range api.MaxLeaves {
		leaves = append(leaves, row(float64(i), -1))
		g.L = append(g.L, leaf(i))
	}
	valued(t, "as many leaves as may be", all(g), leaves, 0, api.Tensor{}, leaves...)
	more := append(slices.Clone(leaves), row(1))
	refused(t, "one leaf more", all(g), more, 0, api.Tensor{}, api.ErrLimit)
	refused(t, "one leaf more, not named", all(of(constant(row(1)))), more, 0, api.Tensor{}, api.ErrLimit)
	refused(t, "one leaf more, and no graphs", nil, more, 0, api.Tensor{}, api.ErrLimit)
	refused(t, "far more leaves", all(g), slices.Repeat(leaves, 1000), 0, api.Tensor{}, api.ErrLimit)
}

func TestDeep(t *testing.T) {
	x := row(1, -0.5)
	for deep := range api.MaxDepth + 1 {
		l := chain(deep)
		many := float64(deep + 1)
		lasts(t, text(deep, " deep"), l, nil, 0, x, row(many, -0.5*many))
	}
	l := chain(api.MaxDepth + 1)
	refused(t, "one deeper", l, nil, 0, x, api.ErrDepth)
	valued(t, "one deeper elsewhere", l, nil, 1, x, x, row(8, -4), row(9, -4.5))
	refused(t, "itself", all(of(param(), call(0, 0))), nil, 0, x, api.ErrDepth)
	refused(t, "each other", all(of(param(), call(1, 0)), of(param(), call(0, 0))), nil, 1, x, api.ErrDepth)
	valued(t, "itself elsewhere", all(of(param(), call(0, 0)), of(param())), nil, 1, x, x)
}

func TestMuchWork(t *testing.T) {
	x := row(7)
	want := append(list(single(2)), slices.Repeat(list(x), 63)...)
	valued(t, "as much work as may be", all(often(63, 1), wide(64)), list(x), 0, single(2), want...)
	refused(t, "one node more", all(of(append(often(63, 1).L, leaf(0))...), wide(64)), list(x), 0, single(2), api.ErrWork)
	refused(t, "far more", all(often(255, 1), often(255, 2), wide(256)), list(x), 0, single(2), api.ErrWork)
	valued(t, "far more elsewhere", all(often(255, 1), often(255, 2), wide(2)), list(x), 2, single(2), x, x)
}

// TestMuchWorkOfGreatTensors: as much of it as may be ends soon, too.
func TestMuchWorkOfGreatTensors(t *testing.T) {
	x := counted(64, 64)
	inner := of(param())
	for at := range 63 {
		inner.L = append(inner.L, node(api.Add, 0, at))
	}
	many := counted(64, 64)
	for i := range many.Data {
		many.Data[i] *= 64
	}
	valued(t, "all numbers in all nodes", all(often(63, 1), inner), nil, 0, x, append(list(x), slices.Repeat(list(many), 63)...)...)
}

func TestGreatTensors(t *testing.T) {
	x := counted(4096)
	y := counted(64, 64)
	twice := counted(4096)
	for i := range twice.Data {
		twice.Data[i] *= 2
	}
	l := all(of(param(), node(api.Add, 0, 0), call(1, 1), node(api.Sum, 2), to(api.Reshape, 2, 8, 8, 8, 8), to(api.Broadcast, 3, 64, 64), leaf(0)), of(param()))
	valued(t, "as great as may be", l, list(y), 0, x, x, twice, twice, row(4096*4097), tens(ints(8, 8, 8, 8), twice.Data...), filled(4096*4097, 64, 64), y)
	ones := filled(1, 64, 64)
	valued(t, "a great product", all(of(leaf(0), leaf(0), node(api.Matmul, 0, 1))), list(ones), 0, api.Tensor{}, ones, ones, filled(64, 64, 64))
	valued(t, "of one and one", all(of(param(), leaf(0), node(api.Matmul, 0, 1))), list(filled(2, 1, 64)), 0, filled(3, 64, 1), filled(3, 64, 1), filled(2, 1, 64), filled(6, 64, 64))
	refused(t, "a product that is too great", all(of(param(), leaf(0), node(api.Matmul, 0, 1))), list(filled(2, 1, 65)), 0, filled(3, 64, 1), api.ErrSize)
	refused(t, "a sum that is too great", all(of(param(), leaf(0), node(api.Add, 0, 1))), list(counted(65)), 0, filled(3, 64, 1), api.ErrSize)
	refused(t, "a param that is too great", all(of(param())), nil, 0, counted(4097), api.ErrShape)
	refused(t, "a leaf that is too great", all(of(leaf(0))), list(counted(4097)), 0, x, api.ErrLeaf)
}

// TestSmallTensors: of each number of places, with one number.
func TestSmallTensors(t *testing.T) {
	for places := range api.MaxDims + 1 {
		x := filled(3, slices.Repeat(ints(1), places)...)
		y := filled(6, slices.Repeat(ints(1), places)...)
		l := all(of(param(), leaf(0), node(api.Add, 0, 1), call(1, 2), constant(x)), of(param()))
		valued(t, text(places, " places"), l, list(x), 0, x, x, x, y, y, x)
	}
}

// TestNumbers: NaNs, infinities and noughts with a sign go through as they are, and come of operators as they must.
func TestNumbers(t *testing.T) {
	x := row(0, less, nan, other, inf, below, tiny, -tiny, great, -great)
	minus := row(less, 0, nan, nan, below, inf, -tiny, tiny, -great, great)
	l := all(of(param(), leaf(0), constant(x), call(1, 0), node(api.Neg, 0), node(api.Add, 0, 0), node(api.Sub, 0, 1), node(api.Mul, 0, 4), node(api.Div, 0, 2)), of(param()))
	valued(t, "all kinds", l, list(x), 0, x, x, x, x, x, minus,
		row(0, less, nan, nan, inf, below, 2*tiny, -2*tiny, inf, below),
		row(0, 0, nan, nan, nan, nan, 0, 0, 0, 0),
		row(less, less, nan, nan, below, below, less, less, below, below),
		row(nan, nan, nan, nan, nan, nan, 1, 1, 1, 1))
	valued(t, "one by one", all(of(leaf(0), node(api.Relu, 0), node(api.Exp, 0), node(api.Log, 0), node(api.Sum, 0))), list(row(less, below, nan, inf)), 0, api.Tensor{},
		row(less, below, nan, inf), row(0, 0, nan, inf), row(1, 0, nan, inf), row(below, nan, nan, inf), row(nan))
}

// TestRounding: sums and products are rounded one by one, also where they meet across nodes and Calls.
func TestRounding(t *testing.T) {
	x := 1 + math.Pow(2, -30)
	product := float64(x * x)
	l := all(
		of(leaf(0), node(api.Mul, 0, 0), leaf(1), node(api.Sub, 1, 2), call(1, 0), node(api.Sub, 4, 2)),
		of(param(), node(api.Mul, 0, 0)),
	)
	valued(t, "a product and a sum", l, list(single(x), single(product)), 0, api.Tensor{}, single(x), single(product), single(product), single(0), single(product), single(0))
	many := row(1<<53, 1, 1, 1)
	column := tens(ints(4, 1), 1, 1, 1, 1)
	valued(t, "a row and a fold", all(of(leaf(0), leaf(1), to(api.Reshape, 0, 1, 4), node(api.Matmul, 2, 1), node(api.Sum, 0))), list(many, column), 0, api.Tensor{},
		many, column, tens(ints(1, 4), many.Data...), tens(ints(1, 1), 1<<53), row(1<<53+2))
}

// TestParamThatMayNotBe: where graph g begins with a Param; where it does not, it is not asked, be there a Param in what is Called or not.
func TestParamThatMayNotBe(t *testing.T) {
	x := row(1)
	l := all(of(param(), node(api.Neg, 0)), of(leaf(0)), of(leaf(0), call(0, 0)), of(param(), leaf(0)), of(param()), of(constant(x), call(1, 0)))
	for _, p := range wrongTensors() {
		what := text("param of shape ", p.Shape, " with ", len(p.Data), " numbers")
		refused(t, what, l, list(x), 0, p, api.ErrShape)
		refused(t, what+", not used", l, list(x), 3, p, api.ErrShape)
		refused(t, what+", alone", l, list(x), 4, p, api.ErrShape)
		valued(t, what+", no Param", l, list(x), 1, p, x)
		valued(t, what+", a Param in what is Called", l, list(x), 2, p, x, row(-1))
		valued(t, what+", no Param anywhere", l, list(x), 5, p, x, x)
	}
}

// TestParamThatIsNotAsked: one that may be changes nothing where there is no Param.
func TestParamThatIsNotAsked(t *testing.T) {
	x := row(1)
	for _, p := range list(x, row(2, 3), single(nan), counted(64, 64)) {
		valued(t, "no Param", all(of(leaf(0), node(api.Neg, 0))), list(x), 0, p, x, row(-1))
	}
}
