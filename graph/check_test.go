package graph

import (
	"math"
	"slices"
	"testing"

	"backstitch/api"
)

// two is the shapes of two leaves.
func two() [][]int { return sizes(ints(2), ints(3)) }

func TestNoGraphs(t *testing.T) {
	fine(t, "none", nil, nil)
	fine(t, "none", all(), sizes())
	fine(t, "none, with leaves", nil, two())
}

// plain is a node of that operator that is well at place 2 or farther.
func plain(op int) api.Node {
	n := api.Node{Op: op, To: ints(1)}
	switch op {
	case api.Const:
		n.Val = tens(ints(1), 5)
	case api.Neg, api.Exp, api.Log, api.Relu, api.Sum, api.Broadcast, api.Reshape, api.Call:
		n.In = ints(1)
	case api.Add, api.Sub, api.Mul, api.Div, api.Matmul:
		n.In = ints(0, 1)
	}
	return n
}

// TestEachOperator: with as many inputs as it has, and with fewer and more.
func TestEachOperator(t *testing.T) {
	for op := api.Leaf; op <= api.Call; op++ {
		if op == api.Param {
			continue
		}
		n := plain(op)
		fine(t, text("operator ", op), all(of(leaf(0), leaf(1), n)), two())
		for many := range 5 {
			if many == len(n.In) {
				continue
			}
			m := n
			m.In = slices.Repeat(ints(0), many)
			found(t, text("operator ", op, " with ", many, " inputs"), all(of(leaf(0), leaf(1), m)), two(), 0, 2, api.ErrArg)
		}
	}
}

func TestNoOperator(t *testing.T) {
	for _, op := range ints(math.MinInt, -api.Leaf, -1, api.Leaf-1, api.Call+1, api.Call+2, 1<<8+api.Leaf, 1<<16+api.Leaf, 1<<32+api.Leaf, math.MaxInt) {
		found(t, text("operator ", op), all(of(node(op))), two(), 0, 0, api.ErrOp)
		found(t, text("operator ", op), all(of(leaf(0), node(op, 0), leaf(0))), two(), 0, 1, api.ErrOp)
	}
}

func TestParam(t *testing.T) {
	fine(t, "a Param alone", all(of(param())), nil)
	fine(t, "a Param in each graph", all(of(param()), of(param(), node(api.Neg, 0))), nil)
	for at := 1; at < 5; at++ {
		l := slices.Repeat([]api.Node{leaf(0)}, 5)
		l[at] = param()
		found(t, text("a Param at ", at), all(of(l...)), two(), 0, at, api.ErrArg)
		l[0] = param()
		found(t, text("a second Param at ", at), all(of(l...)), two(), 0, at, api.ErrArg)
	}
	found(t, "a Param with an input", all(of(node(api.Param, 0))), nil, 0, 0, api.ErrArg)
	found(t, "a Param as the last of all nodes", all(of(append(wide(api.MaxNodes-1).L, param())...)), two(), 0, api.MaxNodes-1, api.ErrArg)
}

// TestInputs: what stands below is taken, as often as one likes, far away too.
func TestInputs(t *testing.T) {
	fine(t, "the node below", all(of(leaf(0), node(api.Neg, 0), node(api.Neg, 1))), two())
	fine(t, "the first node", all(of(leaf(0), node(api.Neg, 0), node(api.Neg, 0))), two())
	fine(t, "one node twice", all(of(leaf(0), node(api.Add, 0, 0))), two())
	fine(t, "the greater one first", all(of(leaf(0), leaf(1), node(api.Sub, 1, 0))), two())
	l := append(wide(api.MaxNodes-2).L, node(api.Add, 0, api.MaxNodes-3), node(api.Neg, api.MaxNodes-2))
	fine(t, "all nodes", all(of(l...)), two())
}

func TestInputIsNotBelow(t *testing.T) {
	for _, c := range []struct {
		in   []int
		want api.Errno
	}{
		{ints(2, 0), api.ErrCycle},
		{ints(0, 2), api.ErrCycle},
		{ints(3, 0), api.ErrCycle},
		{ints(0, 3), api.ErrCycle},
		{ints(4, 4), api.ErrCycle},
		{ints(0, math.MaxInt), api.ErrCycle},
		{ints(2, -1), api.ErrCycle},
		{ints(-1, 2), api.ErrCycle},
		{ints(-1, 3), api.ErrCycle},
		{ints(-1, 0), api.ErrGraph},
		{ints(0, -1), api.ErrGraph},
		{ints(-1, -1), api.ErrGraph},
		{ints(math.MinInt, 1), api.ErrGraph},
		{ints(1, math.MinInt), api.ErrGraph},
	} {
		for _, op := range ints(api.Add, api.Sub, api.Mul, api.Div, api.Matmul) {
			found(t, text("inputs ", c.in), all(of(leaf(0), leaf(0), node(op, c.in...), leaf(0))), two(), 0, 2, c.want)
		}
	}
	for _, op := range ints(api.Neg, api.Exp, api.Log, api.Relu, api.Sum, api.Broadcast, api.Reshape, api.Call) {
		for _, in := range ints(2, 3, 4, math.MaxInt) {
			found(t, text("input ", in), all(of(leaf(0), leaf(0), node(op, in), leaf(0))), two(), 0, 2, api.ErrCycle)
		}
		for _, in := range ints(-1, -2, math.MinInt) {
			found(t, text("input ", in), all(of(leaf(0), leaf(0), node(op, in), leaf(0))), two(), 0, 2, api.ErrGraph)
		}
		found(t, "its own input at 0", all(of(node(op, 0))), two(), 0, 0, api.ErrCycle)
		found(t, "below 0 at 0", all(of(node(op, -1))), two(), 0, 0, api.ErrGraph)
	}
}

// TestCalls: also of itself and of each other, which Check does not ask.
func TestCalls(t *testing.T) {
	three := func(no int) []api.Graph { return all(of(leaf(0)), of(leaf(0), call(no, 0)), of(param())) }
	for _, no := range ints(0, 1, 2) {
		fine(t, text("a Call of ", no), three(no), two())
	}
	for _, no := range ints(math.MinInt, -1, 3, 4, 1<<32, 1<<32+1, math.MaxInt) {
		found(t, text("a Call of ", no), three(no), two(), 1, 1, api.ErrGraph)
	}
	fine(t, "Calls of each other", all(of(param(), call(1, 0)), of(param(), call(0, 0))), nil)
	fine(t, "Calls too deep", chain(api.MaxDepth+1), nil)
	l := slices.Repeat(all(often(1, api.MaxGraphs-1)), api.MaxGraphs)
	fine(t, "Calls of the last of all graphs", l, nil)
	found(t, "a Call of the next one", append(l[:api.MaxGraphs-1], often(1, api.MaxGraphs)), nil, api.MaxGraphs-1, 1, api.ErrGraph)
	fine(t, "too much work", all(often(255, 1), often(255, 0)), nil)
}

func TestLeaves(t *testing.T) {
	for _, no := range ints(0, 1) {
		fine(t, text("leaf ", no), all(of(param(), leaf(no))), two())
	}
	for _, no := range ints(math.MinInt, -1, 2, 3, 1<<32, 1<<32+1, math.MaxInt) {
		found(t, text("leaf ", no), all(of(leaf(no))), two(), 0, 0, api.ErrLeaf)
		found(t, text("leaf ", no), all(of(param(), leaf(no))), two(), 0, 1, api.ErrLeaf)
	}
	found(t, "no leaves", all(of(leaf(0))), nil, 0, 0, api.ErrLeaf)
	most := slices.Repeat(sizes(ints(2)), api.MaxLeaves)
	fine(t, "the last of all leaves", all(of(leaf(api.MaxLeaves-1))), most)
	found(t, "the next one", all(of(leaf(api.MaxLeaves))), most, 0, 0, api.ErrLeaf)
}

// TestLeafShapes: a shape is asked where a node names it, and there alone.
func TestLeafShapes(t *testing.T) {
	for _, s := range someShapes() {
		fine(t, text("shape ", s), all(of(leaf(0), leaf(1))), sizes(ints(2), s))
	}
	for _, s := range wrongShapes() {
		leaves := sizes(ints(2), s)
		found(t, text("shape ", s), all(of(leaf(0), leaf(1))), leaves, 0, 1, api.ErrShape)
		found(t, text("shape ", s), all(of(leaf(0)), of(leaf(0), leaf(0), leaf(1))), leaves, 1, 2, api.ErrShape)
		fine(t, text("shape ", s, " that no node names"), all(of(leaf(0))), leaves)
		other := node(api.Neg, 0)
		other.No = 1
		fine(t, text("shape ", s, " that no Leaf names"), all(of(leaf(0), other, call(1, 0)), of(param())), leaves)
	}
}

func TestConstants(t *testing.T) {
	for _, s := range someShapes() {
		fine(t, text("shape ", s), all(of(constant(s...))), nil)
	}
	fine(t, "numbers may be any", all(of(api.Node{Op: api.Const, Val: tens(ints(3), nan, math.Inf(1), math.Inf(-1))})), nil)
	for _, x := range wrongTensors() {
		n := api.Node{Op: api.Const, Val: x, To: ints(1)}
		found(t, text("a constant of shape ", x.Shape), all(of(n)), nil, 0, 0, api.ErrShape)
		found(t, text("a constant of shape ", x.Shape), all(of(constant(1)), of(constant(1), n)), nil, 1, 1, api.ErrShape)
	}
}

// TestHooks: of whatever operator the node is.
func TestHooks(t *testing.T) {
	for op := api.Leaf; op <= api.Call; op++ {
		at, l := 2, []api.Node{leaf(0), leaf(1), plain(op)}
		if op == api.Param {
			at, l = 0, []api.Node{param()}
		}
		for many := range api.MaxHooks + 1 {
			l[at].Hooks = scales(many)
			fine(t, text(many, " hooks of operator ", op), all(of(l...)), two())
		}
		for _, h := range wrongHooks() {
			l[at].Hooks = h
			found(t, text("hooks ", h, " of operator ", op), all(of(l...)), two(), 0, at, api.ErrHook)
		}
	}
}

// TestWhatIsNotAsked: To, No and Val where the operator does not have them; To nowhere, since it is the shapes' matter.
func TestWhatIsNotAsked(t *testing.T) {
	for op := api.Leaf; op <= api.Call; op++ {
		for _, no := range ints(math.MinInt, -1, 2, 77, math.MaxInt) {
			for _, s := range wrongShapes() {
				at, l := 2, []api.Node{leaf(0), leaf(1), plain(op)}
				if op == api.Param {
					at, l = 0, []api.Node{param()}
				}
				l[at].To = s
				if op != api.Leaf && op != api.Call {
					l[at].No = no
				}
				if op != api.Const {
					l[at].Val = noughts(s...)
				}
				fine(t, text("operator ", op, " with ", no, " and ", s), all(of(l...)), two())
			}
		}
	}
}

func TestLimits(t *testing.T) {
	good, bad := of(constant(1)), of(node(0))
	fine(t, "as many graphs as may be", slices.Repeat(all(good), api.MaxGraphs), nil)
	found(t, "one graph more", slices.Repeat(all(good), api.MaxGraphs+1), nil, 0, 0, api.ErrLimit)
	found(t, "one graph more, all bad", slices.Repeat(all(bad), api.MaxGraphs+1), nil, 0, 0, api.ErrLimit)
	found(t, "one graph more, all empty", make([]api.Graph, api.MaxGraphs+1), nil, 0, 0, api.ErrLimit)
	found(t, "far more graphs", make([]api.Graph, 100000), nil, 0, 0, api.ErrLimit)
	found(t, "as many as may be, the last one bad", append(slices.Repeat(all(good), api.MaxGraphs-1), bad), nil, api.MaxGraphs-1, 0, api.ErrOp)
	fine(t, "as many leaves as may be", all(good), make([][]int, api.MaxLeaves))
	found(t, "one leaf more", all(good), make([][]int, api.MaxLeaves+1), 0, 0, api.ErrLimit)
	found(t, "one leaf more and no graph", nil, make([][]int, api.MaxLeaves+1), 0, 0, api.ErrLimit)
	found(t, "one leaf more and a bad graph behind", all(good, of(good.L[0], node(0))), make([][]int, api.MaxLeaves+1), 0, 0, api.ErrLimit)
	found(t, "far more leaves", all(good), make([][]int, 100000), 0, 0, api.ErrLimit)
}

func TestNodeLimits(t *testing.T) {
	good := of(constant(1))
	fine(t, "as many nodes as may be", all(wide(api.MaxNodes)), two())
	for _, many := range ints(0, api.MaxNodes+1, api.MaxNodes+2, 10000) {
		for at := range 4 {
			l := slices.Repeat(all(good), 4)
			l[at] = wide(many)
			found(t, text(many, " nodes"), l, two(), at, 0, api.ErrLimit)
		}
	}
	many := wide(api.MaxNodes + 1)
	many.L[5] = node(0)
	found(t, "too many nodes, one of them bad", all(many), two(), 0, 0, api.ErrLimit)
	last := wide(api.MaxNodes)
	last.L[api.MaxNodes-1] = node(0)
	found(t, "the last of all nodes bad", all(good, last), two(), 1, api.MaxNodes-1, api.ErrOp)
}
