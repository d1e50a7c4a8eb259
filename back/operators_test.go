package back

import (
	"math"
	"testing"

	"backstitch/api"
	"backstitch/fold"
	"backstitch/op"
	"backstitch/rule"
)

// three is leaves (2, 1), (3) and (2, 2).
func three() []api.Tensor {
	return list(tens(ints(2, 1), 2, -3), row(1, 4, -0.5), tens(ints(2, 2), 1, 2, 3, 5))
}

// TestEachOperator: as the root behind three leaves, with numbers that are written out.
func TestEachOperator(t *testing.T) {
	leaves := three()
	a, b, c := leaves[0], leaves[1], leaves[2]
	za, zb, zc := filled(0, 2, 1), filled(0, 3), filled(0, 2, 2)
	seed := tens(ints(2, 3), 1, 2, 3, 4, 5, 6)
	e := math.Exp(-0.5)
	for _, x := range []struct {
		n    api.Node
		seed api.Tensor
		want []api.Tensor
	}{
		{leaf(0), tens(ints(2, 1), 5, 6), list(tens(ints(2, 1), 5, 6), zb, zc)},
		{leaf(2), tens(ints(2, 2), 5, 6, 7, 8), list(za, zb, tens(ints(2, 2), 5, 6, 7, 8))},
		{constant(row(9, 9)), row(5, 6), list(za, zb, zc)},
		{node(api.Add, 0, 1), seed, list(tens(ints(2, 1), 6, 15), row(5, 7, 9), zc)},
		{node(api.Add, 1, 0), seed, list(tens(ints(2, 1), 6, 15), row(5, 7, 9), zc)},
		{node(api.Sub, 0, 1), seed, list(tens(ints(2, 1), 6, 15), row(-5, -7, -9), zc)},
		{node(api.Sub, 1, 0), seed, list(tens(ints(2, 1), -6, -15), row(5, 7, 9), zc)},
		{node(api.Mul, 0, 1), seed, list(tens(ints(2, 1), 1+8-1.5, 4+20-3), row(2-12, 4-15, 6-18), zc)},
		{node(api.Mul, 1, 0), seed, list(tens(ints(2, 1), 1+8-1.5, 4+20-3), row(2-12, 4-15, 6-18), zc)},
		{node(api.Div, 0, 1), seed, list(tens(ints(2, 1), 1+0.5-6, 4+1.25-12), row(-2+12, -0.25+0.9375, -24+72), zc)},
		{node(api.Neg, 0), tens(ints(2, 1), 5, 6), list(tens(ints(2, 1), -5, -6), zb, zc)},
		{node(api.Exp, 1), row(1, 0, 2), list(za, row(math.Exp(1), 0, 2*e), zc)},
		{node(api.Log, 1), row(1, 2, 3), list(za, row(1, 0.5, -6), zc)},
		{node(api.Relu, 1), row(5, 6, 7), list(za, row(5, 6, 0), zc)},
		{node(api.Relu, 0), tens(ints(2, 1), 5, 6), list(tens(ints(2, 1), 5, 0), zb, zc)},
		{node(api.Matmul, 2, 0), tens(ints(2, 1), 10, 100), list(tens(ints(2, 1), 310, 520), zb, tens(ints(2, 2), 20, -30, 200, -300))},
		{node(api.Sum, 2), row(7), list(za, zb, filled(7, 2, 2))},
		{to(api.Broadcast, 0, 2, 3), seed, list(tens(ints(2, 1), 6, 15), zb, zc)},
		{to(api.Broadcast, 1, 2, 3), seed, list(za, row(5, 7, 9), zc)},
		{to(api.Reshape, 2, 4), row(5, 6, 7, 8), list(za, zb, tens(ints(2, 2), 5, 6, 7, 8))},
		{call(1, 2), tens(ints(2, 2), 5, 6, 7, 8), list(za, zb, tens(ints(2, 2), 10, 24, 42, 80))},
		{call(2, 2), row(5, 6, 7), list(za, row(-5, -6, -7), zc)},
	} {
		l := all(of(leaf(0), leaf(1), leaf(2), x.n), of(param(), node(api.Mul, 0, 0)), of(leaf(1), node(api.Neg, 0)))
		what := text("operator ", x.n.Op, " of ", x.n.In)
		comes(t, what, asking(l, list(a, b, c), x.seed), none(), x.want...)
	}
	comes(t, "a Param", asking(all(of(param())), leaves, c).param(zc), c, za, zb, zc)
}

// operands is nodes of each operator that rule.Back knows, whose inputs are leaves of these numbers.
func operands() []struct {
	n  api.Node
	in []api.Tensor
} {
	uneven := func(from float64, s ...int) api.Tensor {
		x := counted(s...)
		for i := range x.Data {
			x.Data[i] = math.Sin(from + 1.7*float64(i))
		}
		return x
	}
	a, b, c := uneven(1, 2, 1, 3), uneven(2, 4, 1), uneven(3, 3, 3)
	return []struct {
		n  api.Node
		in []api.Tensor
	}{
		{constant(a), nil},
		{node(api.Add, 0, 1), list(a, b)},
		{node(api.Sub, 0, 1), list(a, b)},
		{node(api.Mul, 0, 1), list(a, b)},
		{node(api.Div, 0, 1), list(a, b)},
		{node(api.Neg, 0), list(a)},
		{node(api.Exp, 0), list(a)},
		{node(api.Log, 0), list(a)},
		{node(api.Relu, 0), list(a)},
		{node(api.Matmul, 0, 1), list(c, uneven(4, 3, 2))},
		{node(api.Sum, 0), list(a)},
		{to(api.Broadcast, 0, 2, 4, 3), list(a)},
		{to(api.Reshape, 0, 3, 2), list(a)},
		{node(api.Mul, 0, 1), list(row(0, less, nan, inf, tiny, great), row(inf, 1, 2, below, tiny, great))},
		{node(api.Div, 0, 1), list(row(0, less, nan, inf, tiny, great), row(0, 1, 2, below, tiny, great))},
		{node(api.Sub, 0, 1), list(row(0, less, nan, inf, tiny, great), single(less))},
		{node(api.Log, 0), list(row(0, less, nan, other, inf, below, tiny, -great))},
		{node(api.Relu, 0), list(row(0, less, nan, other, inf, below, tiny, -great))},
		{node(api.Exp, 0), list(row(0, less, nan, other, inf, below, tiny, -great))},
	}
}

// TestEachOperatorIsRuleBack: bit for bit what rule.Back gives, each input a leaf of its own.
func TestEachOperatorIsRuleBack(t *testing.T) {
	for _, c := range operands() {
		made, want, seed := byRule(t, c.n, c.in)
		g := api.Graph{}
		for i := range c.in {
			g.L = append(g.L, leaf(i))
		}
		g.L = append(g.L, c.n)
		comes(t, text(op.Name(c.n.Op), made), asking(all(g), c.in, seed), none(), want...)
	}
}

// byRule answers what n makes of its inputs, and what rule.Back gives them of a seed of uneven numbers.
func byRule(t *testing.T, n api.Node, in []api.Tensor) (made api.Tensor, given []api.Tensor, seed api.Tensor) {
	t.Helper()
	made, e := op.Value(n, in)
	if e != api.OK {
		t.Fatalf("%s: Value tells %v", op.Name(n.Op), e)
	}
	seed = filled(0, made.Shape...)
	for i := range seed.Data {
		seed.Data[i] = math.Cos(2.3 * float64(i+1))
	}
	given, e = rule.Back(n, in, made, seed)
	if e != api.OK {
		t.Fatalf("%s: Back tells %v", op.Name(n.Op), e)
	}
	return made, given, seed
}

// TestEachOperatorOfOneNode: of two inputs that are one node, and of two nodes of one leaf, what comes is the tree of both.
func TestEachOperatorOfOneNode(t *testing.T) {
	x := tens(ints(2, 2), 0.1, -0.7, 1.3, 2.9)
	for _, o := range ints(api.Add, api.Sub, api.Mul, api.Div, api.Matmul) {
		_, given, seed := byRule(t, node(o), list(x, x))
		want, e := fold.Tree(given)
		if e != api.OK {
			t.Fatal(e)
		}
		comes(t, op.Name(o)+" of one node", asking(all(of(leaf(0), node(o, 0, 0))), list(x), seed), none(), want)
		comes(t, op.Name(o)+" of two nodes", asking(all(of(leaf(0), leaf(0), node(o, 1, 0))), list(x), seed), none(), want)
		comes(t, op.Name(o)+" of one Param", asking(all(of(param(), node(o, 0, 0))), nil, seed).param(x), want)
		comes(t, op.Name(o)+" of one node within a Call", asking(all(of(leaf(0), call(1, 0)), of(param(), node(o, 0, 0))), list(x), seed), none(), want)
	}
}

// TestOneAfterAnother: rules in a row, each with what the one above it gave, and with what was made below.
func TestOneAfterAnother(t *testing.T) {
	x, b := row(0.3, -1.1, 2.7), tens(ints(2, 1), 0.9, -0.2)
	nodes := []api.Node{node(api.Exp, 0), node(api.Mul, 1, 2), to(api.Reshape, 3, 3, 2), node(api.Relu, 4), node(api.Log, 5), node(api.Sum, 6)}
	l := all(of(leaf(0), nodes[0], leaf(1), nodes[1], nodes[2], nodes[3], nodes[4], nodes[5]))
	made := list(x, none(), b, none(), none(), none(), none(), none())
	inputs := func(at int) []api.Tensor {
		var in []api.Tensor
		for _, i := range l[0].L[at].In {
			in = append(in, made[i])
		}
		return in
	}
	for _, at := range ints(1, 3, 4, 5, 6, 7) {
		made[at], _ = op.Value(l[0].L[at], inputs(at))
	}
	seed := row(0.7)
	given := list(seed)
	var factor api.Tensor
	for _, at := range ints(7, 6, 5, 4, 3, 1) {
		grad := given[0]
		var e api.Errno
		if given, e = rule.Back(l[0].L[at], inputs(at), made[at], grad); e != api.OK {
			t.Fatal(e)
		}
		if at == 3 {
			factor = given[1]
		}
	}
	comes(t, "six rules", asking(l, list(x, b), seed), none(), given[0], factor)
}
