package back

import (
	"slices"
	"testing"

	"backstitch/api"
	"backstitch/op"
	"backstitch/rule"
)

// TestHookRefuses: Finite on each kind of node, of what is not finite.
func TestHookRefuses(t *testing.T) {
	x, y := row(2, -3), row(5, 7)
	fin := func(n api.Node, l ...api.Hook) api.Node { return hooked(n, append(l, finite())...) }
	for _, c := range []struct {
		what string
		l    []api.Graph
		node int
	}{
		{"a Leaf that is the root", all(of(fin(leaf(0)))), 0},
		{"a Param that is the root", all(of(fin(param()))), 0},
		{"a constant", all(of(fin(constant(x)))), 0},
		{"the root", all(of(leaf(0), leaf(1), fin(node(api.Mul, 0, 1)))), 2},
		{"a Leaf", all(of(leaf(1), fin(leaf(0)), node(api.Mul, 0, 1))), 1},
		{"a Param", all(of(fin(param()), leaf(0), node(api.Mul, 0, 1))), 0},
		{"a node between", all(of(leaf(0), leaf(1), fin(node(api.Mul, 0, 1)), node(api.Neg, 2))), 2},
		{"a Call", all(of(leaf(0), fin(call(1, 0))), double()), 1},
		{"the input of a Call", all(of(fin(leaf(0)), call(1, 0)), double()), 0},
		{"within a Call", all(of(leaf(0), call(1, 0), node(api.Neg, 1)), of(param(), node(api.Neg, 0), fin(node(api.Neg, 0)))), 1},
		{"a Param within a Call", all(of(leaf(0), leaf(0), call(1, 0)), of(fin(param()))), 2},
		{"a Leaf within a Call", all(of(leaf(0), leaf(0), call(1, 0)), of(fin(leaf(0)))), 2},
		{"within a Call of a Call", all(of(leaf(0), call(1, 0)), of(param(), node(api.Neg, 0), call(2, 1), node(api.Neg, 2)), of(fin(param()))), 1},
		{"behind other hooks", all(of(leaf(0), fin(node(api.Neg, 0), scale(2), scale(-1)))), 1},
		{"behind one that makes it so", all(of(leaf(0), fin(node(api.Neg, 0), zero(), scale(inf)))), 1},
	} {
		a := asking(c.l, list(x, y), none()).param(x)
		for _, seed := range list(row(1, inf), row(below, 1), row(nan, 1), row(other, inf)) {
			a.Seed = seed
			fails(t, text(c.what, ", seed ", seed.Data), a, c.node, api.ErrHook)
		}
		a.Seed = row(1, 2)
		if c.what != "behind one that makes it so" {
			if got := Run(a); got.Err != api.OK {
				t.Errorf("%s, a seed that is finite: %s", c.what, short(got))
			}
		}
	}
	gone := all(of(leaf(0), fin(node(api.Neg, 0), clip(9))))
	comes(t, "clipped ahead of it", asking(gone, list(x, y), row(1, inf)), none(), row(-1, -9), row(0, 0))
	aside := all(of(leaf(0), fin(node(api.Neg, 0)), node(api.Neg, 0)))
	comes(t, "a node that is not reached", asking(aside, list(x, y), row(1, inf)), none(), row(-1, below), row(0, 0))
	sums := all(of(fin(leaf(0)), times(great, 0), times(great, 0), node(api.Add, 1, 2)))
	fails(t, "a sum that is too great", asking(sums, list(single(1)), single(1)), 0, api.ErrHook)
}

// TestStale: of each operator with each of its inputs a stale leaf.
func TestStale(t *testing.T) {
	x := tens(ints(2, 2), 1, 2, 3, 4)
	for o := api.Leaf; o <= api.Call; o++ {
		n := api.Node{Op: o, No: 1, Val: x, To: ints(2, 2)}
		for slot := range op.Many(o) {
			n.In = append(n.In, slot)
		}
		g := of(leaf(0), leaf(1), n)
		if o == api.Param {
			g = of(n)
		}
		a := asking(all(g, double()), list(x, x, x), x).param(x)
		if o == api.Sum {
			a.Seed = row(1)
		}
		fresh := Run(a)
		if fresh.Err != api.OK {
			t.Errorf("operator %v: %s", o, short(fresh))
		}
		for _, stale := range [][]int{{0}, {1}, {0, 1}, {2}} {
			what := text("operator ", o, ", stale ", stale)
			if rule.Needs(o) && stale[0] < op.Many(o) {
				fails(t, what, a.stale(stale...), 2, api.ErrStale)
				continue
			}
			comes(t, what, a.stale(stale...), fresh.Param, fresh.Leaf...)
		}
	}
}

// TestStaleIsOfLeafNodes: an input that comes of a stale leaf by another node is not one, be it a Neg, a Call or a Param; each node of a leaf is.
func TestStaleIsOfLeafNodes(t *testing.T) {
	x, y := row(2, -3), row(5, 7)
	seed := row(1, 10)
	a := func(l ...api.Graph) Ask { return asking(l, list(x, y), seed).stale(0) }
	own := of(leaf(0))
	comes(t, "a Neg of it", a(of(leaf(0), node(api.Neg, 0), node(api.Mul, 1, 1))), none(), row(4, -60), row(0, 0))
	comes(t, "a sum with it", a(of(leaf(0), leaf(1), node(api.Add, 0, 1), node(api.Mul, 2, 1))), none(), row(5, 70), row(5+7, 10*(7+4)))
	comes(t, "a Call of it", a(of(leaf(0), call(1, 0), node(api.Mul, 1, 1)), double()), none(), row(16, -240), row(0, 0))
	comes(t, "a Call that is it", a(of(leaf(1), call(1, 0), node(api.Mul, 1, 0)), own), none(), row(5, 70), row(2, -30))
	comes(t, "a Param that is it", a(of(leaf(0), call(1, 0)), square()), none(), row(4, -60), row(0, 0))
	comes(t, "not reached", a(of(leaf(0), leaf(1), node(api.Mul, 0, 0), node(api.Mul, 1, 1))), none(), row(0, 0), row(10, 140))
	comes(t, "the root", a(of(leaf(0))), none(), seed, row(0, 0))
	fails(t, "by another node", a(of(leaf(0), leaf(1), leaf(0), node(api.Mul, 1, 2))), 3, api.ErrStale)
	fails(t, "by another node, not reached else", a(of(leaf(1), leaf(0), node(api.Add, 0, 1), node(api.Mul, 1, 0))), 3, api.ErrStale)
	fails(t, "within a Call", a(of(leaf(1), call(1, 0)), of(param(), leaf(0), node(api.Mul, 0, 1))), 1, api.ErrStale)
	fails(t, "within a Call of a Call", a(of(leaf(1), call(1, 0)), of(param(), node(api.Neg, 0), node(api.Neg, 0), call(2, 1)), of(leaf(0), node(api.Relu, 0))), 1, api.ErrStale)
	fails(t, "one of many leaves", asking(all(of(leaf(30), leaf(31), node(api.Div, 1, 0))), slices.Repeat(list(filled(1, 32)), 32), filled(1, 32)).stale(31), 2, api.ErrStale)
}

// failing is nodes that fail, each in a way of its own, where node 0 is leaf 0, which is stale, and the seed is infinite; graph 1 leaves things as they are, and graph 2 has a hook that refuses.
func failing() []struct {
	n    api.Node
	deep int
	want api.Errno
} {
	return []struct {
		n    api.Node
		deep int
		want api.Errno
	}{
		{hooked(node(api.Neg, 0), finite()), 8, api.ErrHook},
		{node(api.Mul, 0, 0), 8, api.ErrStale},
		{call(1, 0), 0, api.ErrDepth},
		{call(2, 0), 8, api.ErrHook},
		{call(3, 0), 8, api.ErrStale},
		{call(4, 0), 1, api.ErrDepth},
		{hooked(node(api.Mul, 0, 0), finite()), 8, api.ErrHook},
		{hooked(node(api.Mul, 0, 0), finite()), 0, api.ErrHook},
		{hooked(call(1, 0), finite()), 0, api.ErrHook},
		{hooked(call(3, 0), finite()), 8, api.ErrHook},
		{call(2, 0), 0, api.ErrDepth},
		{call(3, 0), 0, api.ErrDepth},
		{call(5, 0), 8, api.ErrHook},
		{call(6, 0), 8, api.ErrStale},
		{call(6, 0), 1, api.ErrStale},
		{call(7, 0), 8, api.ErrHook},
	}
}

// failures is the graphs that failing Calls, behind a graph.
func failures(g api.Graph) []api.Graph {
	fin := hooked(param(), finite())
	return all(g,
		of(param()),
		of(fin),
		of(param(), leaf(0), node(api.Mul, 0, 1)),
		of(param(), call(1, 0)),
		of(fin, leaf(0), hooked(node(api.Mul, 0, 1), finite())),
		of(fin, leaf(0), node(api.Mul, 0, 1)),
		of(param(), call(2, 0)),
	)
}

// TestFailures: of a node that has several the first named; the greatest node's of two, whatever the other one's is.
func TestFailures(t *testing.T) {
	x := row(1, 2)
	for i, c := range failing() {
		a := asking(failures(of(leaf(0), c.n)), list(x), row(inf, 1)).stale(0).deep(c.deep)
		fails(t, text("failure ", i), a, 1, c.want)
		between := of(leaf(0), constant(x), c.n, constant(x), node(api.Neg, 2), node(api.Neg, 4))
		a.Graphs = failures(between)
		fails(t, text("failure ", i, ", between others"), a.from(5), 2, c.want)
		a.Graphs = failures(of(leaf(0), c.n, node(api.Neg, 0)))
		comes(t, text("failure ", i, ", not reached"), a.from(2), none(), row(below, -1))
		for k, d := range failing() {
			a.Graphs = failures(of(leaf(0), c.n, d.n, node(api.Add, 1, 2)))
			fails(t, text("failure ", i, " below ", k), a.from(3).deep(d.deep), 2, d.want)
			a.Graphs = failures(of(leaf(0), d.n, c.n, constant(x), node(api.Add, 2, 1)))
			fails(t, text("failure ", i, " above ", k), a.from(4).deep(c.deep), 2, c.want)
		}
	}
}
