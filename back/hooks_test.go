package back

import (
	"testing"

	"backstitch/api"
)

// TestHooks: of each kind and on each kind of node: they change what comes to the node, ahead of what it gives.
func TestHooks(t *testing.T) {
	x, y := row(2, -3), row(5, 7)
	seed := row(1, -100)
	no := row(0, 0)
	for _, h := range []struct {
		what string
		l    []api.Hook
		to   api.Tensor // what becomes of the seed
	}{
		{"none", nil, seed},
		{"Scale", []api.Hook{scale(3)}, row(3, -300)},
		{"Clip", []api.Hook{clip(20)}, row(1, -20)},
		{"Zero", []api.Hook{zero()}, no},
		{"Finite", []api.Hook{finite()}, seed},
		{"Scale, then Clip", []api.Hook{scale(3), clip(20)}, row(3, -20)},
		{"Clip, then Scale", []api.Hook{clip(20), scale(3)}, row(3, -60)},
		{"four", []api.Hook{scale(-1), clip(50), scale(0.5), finite()}, row(-0.5, 25)},
		{"Scale without end, then Zero, then Finite", []api.Hook{scale(inf), zero(), finite()}, no},
	} {
		g := h.to.Data
		with := func(n api.Node) api.Node { return hooked(n, h.l...) }
		for _, c := range []struct {
			what  string
			l     []api.Graph
			param api.Tensor
			want  []api.Tensor
		}{
			{"a Leaf that is the root", all(of(with(leaf(0)))), none(), list(h.to, no)},
			{"a Leaf", all(of(with(leaf(0)), leaf(1), node(api.Add, 0, 1))), none(), list(h.to, seed)},
			{"one of two nodes of a leaf", all(of(leaf(1), with(leaf(1)), node(api.Add, 0, 1))), none(), list(no, row(1+g[0], -100+g[1]))},
			{"a Param that is the root", all(of(with(param()))), h.to, list(no, no)},
			{"a Param", all(of(with(param()), leaf(0), node(api.Add, 0, 1))), h.to, list(seed, no)},
			{"the root", all(of(leaf(0), leaf(1), with(node(api.Mul, 0, 1)))), none(), list(row(5*g[0], 7*g[1]), row(2*g[0], -3*g[1]))},
			{"a node between", all(of(leaf(0), with(node(api.Add, 0, 0)), node(api.Add, 0, 1))), none(), list(row(1+(g[0]+g[0]), -100+(g[1]+g[1])), no)},
			{"a constant", all(of(with(constant(x)), leaf(0), node(api.Add, 0, 1))), none(), list(seed, no)},
			{"a Call", all(of(leaf(0), with(call(1, 0))), double()), none(), list(row(g[0]+g[0], g[1]+g[1]), no)},
			{"a Call without a Param", all(of(leaf(1), with(call(1, 0))), of(leaf(0))), none(), list(row(g[0]+0, g[1]+0), no)},
			{"the input of a Call", all(of(with(leaf(0)), call(1, 0)), of(param())), none(), list(row(0+g[0], 0+g[1]), no)},
			{"a Param within a Call", all(of(leaf(0), call(1, 0)), of(with(param()))), none(), list(row(0+g[0], 0+g[1]), no)},
			{"a Leaf within a Call", all(of(leaf(0), call(1, 0)), of(with(leaf(1)))), none(), list(no, h.to)},
			{"the last node within a Call", all(of(leaf(0), call(1, 0)), of(param(), leaf(1), with(node(api.Mul, 0, 1)))), none(), list(row(5*g[0]+0, 7*g[1]+0), row(2*g[0], -3*g[1]))},
			{"a node that is not reached", all(of(leaf(0), with(leaf(0)), with(node(api.Add, 0, 1)), node(api.Add, 0, 0))), none(), list(row(2, -200), no)},
		} {
			comes(t, h.what+" on "+c.what, asking(c.l, list(x, y), seed).param(x), c.param, c.want...)
		}
	}
}

// TestHooksComeLast: what several users give is added up ahead of the hooks, not each by itself.
func TestHooksComeLast(t *testing.T) {
	g := of(hooked(leaf(0), clip(5)), times(4, 0), times(4, 0), times(-6, 0), node(api.Add, 1, 2), node(api.Add, 4, 3))
	comes(t, "4, 4 and -6", asking(all(g), list(single(1)), single(1)), none(), single(2))
	g = of(leaf(0), hooked(node(api.Neg, 0), clip(5)), times(4, 1), times(4, 1), node(api.Add, 2, 3))
	comes(t, "4 and 4", asking(all(g), list(single(1)), single(1)), none(), single(-5))
	g = of(hooked(leaf(0), clip(5)), hooked(leaf(0), clip(5)), node(api.Add, 0, 1))
	comes(t, "two nodes of a leaf", asking(all(g), list(single(1)), single(4)), none(), single(8))
	l := all(of(leaf(0), call(1, 0), call(1, 0), node(api.Add, 1, 2)), of(hooked(param(), clip(5)), node(api.Add, 0, 0)))
	comes(t, "two Calls", asking(l, list(single(1)), single(4)), none(), single(10))
}

// TestHooksAreNotForward: what a node is does not hang on its hooks, nor do other roots.
func TestHooksAreNotForward(t *testing.T) {
	l := all(of(leaf(0), hooked(node(api.Mul, 0, 0), zero()), node(api.Mul, 1, 0), hooked(node(api.Neg, 2), scale(7))))
	x := single(3)
	comes(t, "zero between", asking(l, list(x), single(1)).from(2), none(), single(9))
	comes(t, "zero at the root", asking(l, list(x), single(1)).from(1), none(), single(0))
	comes(t, "above both", asking(l, list(x), single(1)), none(), single(-63))
}

// TestNumbersGoThrough: NaNs, infinities and noughts with a sign come back as rules and hooks have them.
func TestNumbersGoThrough(t *testing.T) {
	x := row(0, less, nan, other, inf, below, tiny, great)
	ones := filled(1, 8)
	l := all(of(leaf(0), leaf(1), node(api.Mul, 0, 1)), of(param()), of(leaf(0), call(1, 0)))
	comes(t, "the root", asking(l, list(ones, ones), x).from(0), none(), x, filled(0, 8))
	comes(t, "times 1", asking(l, list(ones, ones), x), none(), x, x)
	comes(t, "times all", asking(l, list(x, ones), ones), none(), ones, x)
	comes(t, "times 0", asking(l, list(filled(0, 8), x), ones), none(), x, filled(0, 8))
	comes(t, "a Call, with its noughts", asking(l, list(ones, ones), x).graph(2), none(), row(0, 0, nan, nan, inf, below, tiny, great), filled(0, 8))
	comes(t, "a Param", asking(l, list(ones, ones), x).graph(1).param(ones), x, filled(0, 8), filled(0, 8))
	both := all(of(leaf(0), node(api.Sub, 0, 0)))
	comes(t, "less itself", asking(both, list(ones), x), none(), row(0, 0, nan, nan, nan, nan, 0, 0))
	hooks := all(of(hooked(leaf(0), clip(2), scale(0))))
	comes(t, "clipped, and times 0", asking(hooks, list(ones), x), none(), row(0, less, nan, nan, 0, less, 0, 0))
}

// TestRoundedOneByOne: a product that meets a sum is rounded ahead of it, also across nodes, hooks and Calls.
func TestRoundedOneByOne(t *testing.T) {
	x := 1 + 0x1p-30
	product := float64(x * x)
	l := all(
		of(leaf(0), node(api.Mul, 0, 0), times(-product/2, 0), times(-product/2, 0), node(api.Add, 2, 3)),
		of(leaf(0), hooked(node(api.Neg, 0), scale(-x)), times(-product, 0), node(api.Add, 1, 2)),
		of(leaf(0), call(3, 0), times(-product, 0), node(api.Add, 1, 2)),
		of(param(), leaf(1), node(api.Mul, 0, 1)),
	)
	comes(t, "halves", asking(l, list(single(x), single(x)), single(1)), none(), single(-product), single(0))
	comes(t, "a hook", asking(l, list(single(x), single(x)), single(x)).graph(1), none(), single(product-float64(product*x)), single(0))
	comes(t, "a Call", asking(l, list(single(1), single(x)), single(x)).graph(2), none(), single(product-float64(product*x)), single(x))
}
