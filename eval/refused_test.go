package eval

import (
	"math"
	"slices"
	"testing"

	"backstitch/api"
	"backstitch/graph"
)

// fault is graphs that are refused whatever the leaves (of which there are three, of shape (2, 1)), and g and param (of that shape) are.
type fault struct {
	what string
	l    []api.Graph
	want api.Errno
}

// hooked is a node with hooks.
func hooked(n api.Node, l ...api.Hook) api.Node {
	n.Hooks = l
	return n
}

func threeLeaves() []api.Tensor {
	return list(counted(2, 1), counted(2, 1), counted(2, 1))
}

// unwell is a fault for each error of graph.Check.
func unwell() []fault {
	scale := api.Hook{Do: api.Scale, X: 2}
	return []fault{
		{"too many graphs", slices.Repeat(all(wide(1)), api.MaxGraphs+1), api.ErrLimit},
		{"a graph of no nodes", all(of()), api.ErrLimit},
		{"a graph of too many nodes", all(wide(api.MaxNodes + 1)), api.ErrLimit},
		{"operator 0", all(of(leaf(0), node(0))), api.ErrOp},
		{"one past the last operator", all(of(leaf(0), node(api.Call+1))), api.ErrOp},
		{"operator -1", all(of(leaf(0), node(-1))), api.ErrOp},
		{"too few inputs", all(of(leaf(0), node(api.Add, 0))), api.ErrArg},
		{"too many inputs", all(of(leaf(0), node(api.Neg, 0, 0))), api.ErrArg},
		{"a Call without an input", all(of(leaf(0), node(api.Call))), api.ErrArg},
		{"a Leaf with an input", all(of(leaf(0), node(api.Leaf, 0))), api.ErrArg},
		{"a Param that is not node 0", all(of(leaf(0), param())), api.ErrArg},
		{"an input that is the node", all(of(leaf(0), node(api.Neg, 1))), api.ErrCycle},
		{"an input behind the node", all(of(leaf(0), node(api.Neg, 2), leaf(0))), api.ErrCycle},
		{"an input that is no node", all(of(leaf(0), node(api.Neg, math.MaxInt))), api.ErrCycle},
		{"an input below 0", all(of(leaf(0), node(api.Neg, -1))), api.ErrGraph},
		{"a Call of -1", all(of(leaf(0), call(-1, 0))), api.ErrGraph},
		{"a Call of none", all(of(leaf(0), call(api.MaxGraphs, 0))), api.ErrGraph},
		{"leaf -1", all(of(leaf(-1))), api.ErrLeaf},
		{"one behind the last leaf", all(of(leaf(3))), api.ErrLeaf},
		{"a Const without a tensor", all(of(constant(api.Tensor{}))), api.ErrShape},
		{"a Const with too few numbers", all(of(constant(tens(ints(2), 1)))), api.ErrShape},
		{"a Const of a shape that may not be", all(of(constant(tens(ints(0))))), api.ErrShape},
		{"a hook that is none", all(of(hooked(leaf(0), api.Hook{}))), api.ErrHook},
		{"too many hooks", all(of(hooked(leaf(0), scale, scale, scale, scale, scale))), api.ErrHook},
	}
}

// overdone is a fault of graph 0 for each error of graph.Work but that of no graph.
func overdone() []fault {
	return []fault{
		{"Calls itself", all(of(param(), call(0, 0))), api.ErrDepth},
		{"Calls too deep", chain(api.MaxDepth + 1), api.ErrDepth},
		{"too much work", all(often(64, 1), wide(64)), api.ErrWork},
		{"too much work and too deep", all(often(250, 1), often(250, 0)), api.ErrDepth},
	}
}

// Nodes that are well, of which an input (2, 1) makes an error of one kind.
func misshapen() api.Node { return node(api.Matmul, 0, 0) }

func missized() api.Node { return to(api.Reshape, 0, 3) }

// misfits is a fault of graph 0 for each kind of error of graph.Shapes that is its own.
func misfits() []fault {
	p := param()
	return []fault{
		{"a product of what does not fit", all(of(p, misshapen())), api.ErrShape},
		{"a sum of what does not fit", all(of(p, constant(row(1, 2, 3)), to(api.Reshape, 0, 2), node(api.Add, 1, 2))), api.ErrShape},
		{"a broadcast to what does not fit", all(of(p, to(api.Broadcast, 0, 3, 1))), api.ErrShape},
		{"a broadcast to what may not be", all(of(p, to(api.Broadcast, 0, 0, 1))), api.ErrShape},
		{"a broadcast to what is too great", all(of(p, to(api.Broadcast, 0, 2, 4096))), api.ErrShape},
		{"reshaped to what may not be", all(of(p, to(api.Reshape, 0, -2, -1))), api.ErrShape},
		{"reshaped to another size", all(of(p, missized())), api.ErrSize},
		{"reshaped to what is too great", all(of(p, to(api.Reshape, 0, 4097))), api.ErrSize},
		{"a sum that is too great", all(of(p, constant(counted(2049)), node(api.Mul, 0, 1))), api.ErrSize},
		{"a product that is too great", all(of(p, constant(counted(1, 2049)), node(api.Matmul, 0, 1))), api.ErrSize},
		{"within a Call", all(of(p, call(1, 0)), of(p, misshapen())), api.ErrShape},
		{"within a Call of a Call", all(of(p, call(1, 0)), of(p, call(2, 0)), of(p, missized())), api.ErrSize},
		{"within a Call without a Param", all(of(p, call(1, 0)), of(leaf(0), missized())), api.ErrSize},
		{"a shape ahead of a size", all(of(p, misshapen(), missized())), api.ErrShape},
		{"a size ahead of a shape", all(of(p, missized(), misshapen())), api.ErrSize},
		{"a size within a Call ahead of a shape", all(of(p, call(1, 0), misshapen()), of(p, missized())), api.ErrSize},
		{"a shape ahead of a size within a Call", all(of(p, misshapen(), call(1, 0)), of(p, missized())), api.ErrShape},
		{"not needed by the last node", all(of(p, missized(), node(api.Neg, 0))), api.ErrSize},
		{"not needed within a Call", all(of(p, call(1, 0)), of(p, missized(), node(api.Neg, 0))), api.ErrSize},
		{"what one input fits and another does not", all(of(p, node(api.Sum, 0), constant(row(1, 2, 3)), call(1, 2), call(1, 0)), of(p, missized())), api.ErrSize},
	}
}

// TestEachError: of graph.Check, whatever graph is asked for; of graph.Work and graph.Shapes.
func TestEachError(t *testing.T) {
	x := counted(2, 1)
	for _, f := range unwell() {
		for _, g := range ints(0, 1, -1, 99) {
			refused(t, f.what, f.l, threeLeaves(), g, x, f.want)
		}
		if len(f.l) < api.MaxGraphs {
			refused(t, f.what+", elsewhere", append(all(of(param())), f.l...), threeLeaves(), 0, x, f.want)
		}
	}
	refused(t, "a Call of one behind the last", all(of(param(), call(2, 0)), of(param())), nil, 1, x, api.ErrGraph)
	for _, f := range append(overdone(), misfits()...) {
		refused(t, f.what, f.l, threeLeaves(), 0, x, f.want)
		alone := append(slices.Clone(f.l), of(param()))
		valued(t, f.what+", elsewhere", alone, threeLeaves(), len(f.l), x, x)
	}
}

// TestErrorsAreThoseOfShapes: with whatever is wrong.
func TestErrorsAreThoseOfShapes(t *testing.T) {
	for _, f := range slices.Concat(unwell(), overdone(), misfits()) {
		for _, x := range list(counted(2, 1), counted(3), single(1), counted(1, 1), counted(3, 3), counted(64, 64)) {
			for g := -1; g <= len(f.l); g++ {
				_, want := graph.Shapes(f.l, shapes(threeLeaves()), g, x.Shape)
				if got, e := All(f.l, threeLeaves(), g, x); e != want || (e != api.OK) != (len(got) == 0) {
					t.Errorf("%s, param of shape %v: All of %v = %s, %v, want %v", f.what, x.Shape, g, short(got), e, want)
				}
			}
		}
	}
}

// TestLeafThatMayNotBe: wherever it stands, named or not.
func TestLeafThatMayNotBe(t *testing.T) {
	x := row(1)
	for _, wrong := range wrongTensors() {
		what := text("a leaf of shape ", wrong.Shape, " with ", len(wrong.Data), " numbers")
		for at := range 3 {
			leaves := slices.Insert(list(x, row(2)), at, wrong)
			refused(t, what+", not named", all(of(constant(x))), leaves, 0, x, api.ErrLeaf)
			refused(t, what+", all named", all(of(leaf(0), leaf(1), leaf(2))), leaves, 0, x, api.ErrLeaf)
			refused(t, what+", named elsewhere", all(of(constant(x)), of(leaf(at))), leaves, 0, x, api.ErrLeaf)
			refused(t, what+", another one named", all(of(leaf((at+1)%3))), leaves, 0, x, api.ErrLeaf)
			refused(t, what+", no graphs", nil, leaves, 0, x, api.ErrLeaf)
		}
		refused(t, what+", alone", all(of(leaf(0))), list(wrong), 0, x, api.ErrLeaf)
		refused(t, what+", the last of as many as may be", all(of(leaf(0))), append(slices.Repeat(list(x), api.MaxLeaves-1), wrong), 0, x, api.ErrLeaf)
		refused(t, what+", one leaf more", all(of(leaf(0))), append(slices.Repeat(list(x), api.MaxLeaves), wrong), 0, x, api.ErrLeaf)
		refused(t, what+", the first of far more", all(of(leaf(0))), append(list(wrong), slices.Repeat(list(x), 5000)...), 0, x, api.ErrLeaf)
	}
}

// TestLeafGoesFirst: ahead of all other errors.
func TestLeafGoesFirst(t *testing.T) {
	leaves := append(threeLeaves(), tens(ints(2), 1))
	for _, f := range slices.Concat(unwell(), overdone(), misfits()) {
		for _, p := range list(counted(2, 1), api.Tensor{}) {
			for _, g := range ints(0, -1, 99) {
				refused(t, f.what+", and a leaf", f.l, leaves, g, p, api.ErrLeaf)
			}
		}
	}
}

// TestCheckGoesAheadOfWork: and both of what the shapes are; a param that may not be comes behind both.
func TestCheckGoesAheadOfWork(t *testing.T) {
	x := counted(2, 1)
	for _, p := range list(x, api.Tensor{}, tens(ints(2, 1), 1), tens(ints(0))) {
		for _, f := range overdone() {
			refused(t, f.what, f.l, threeLeaves(), 0, p, f.want)
			bad := append(slices.Clone(f.l), of(node(0)))
			refused(t, f.what+", and a bad graph", bad, threeLeaves(), 0, p, api.ErrOp)
			unfit := slices.Clone(f.l)
			unfit[0] = of(slices.Insert(slices.Clone(f.l[0].L), 1, to(api.Reshape, 0, 3))...)
			refused(t, f.what+", and shapes that do not fit", unfit, threeLeaves(), 0, p, f.want)
		}
		for _, f := range unwell() {
			refused(t, f.what, f.l, threeLeaves(), 0, p, f.want)
		}
		for _, f := range misfits() {
			refused(t, f.what+", and no such graph", f.l, threeLeaves(), len(f.l), p, api.ErrGraph)
		}
	}
}

// TestParamBesideOtherShapes: a shape that may not be is node 0's error, ahead of those of the nodes above it; too few or too many numbers are told behind graph.Shapes' errors.
func TestParamBesideOtherShapes(t *testing.T) {
	few, many := tens(ints(2, 1), 1), tens(ints(2, 1), 1, 2, 3)
	for _, f := range misfits() {
		refused(t, f.what+", too few numbers", f.l, threeLeaves(), 0, few, f.want)
		refused(t, f.what+", too many numbers", f.l, threeLeaves(), 0, many, f.want)
		for _, p := range wrongShapes() {
			refused(t, f.what+", a shape that may not be", f.l, threeLeaves(), 0, p, api.ErrShape)
		}
	}
	fine := all(of(param(), node(api.Sum, 0)))
	refused(t, "too few numbers", fine, nil, 0, few, api.ErrShape)
	refused(t, "too many numbers", fine, nil, 0, many, api.ErrShape)
}

// TestWhatIsNotAsked: what a node's operator does not have, and hooks that may be, change nothing forward.
func TestWhatIsNotAsked(t *testing.T) {
	x := row(3, -2)
	odd := func(n api.Node) api.Node {
		n.Hooks = []api.Hook{{Do: api.Zero}, {Do: api.Scale, X: nan}, {Do: api.Clip, X: 1}, {Do: api.Finite}}
		if n.Op != api.Const {
			n.Val = tens(ints(-1), 5)
		}
		if n.Op != api.Leaf && n.Op != api.Call {
			n.No = -7
		}
		n.To = ints(0, 99)
		return n
	}
	l := all(of(odd(param()), odd(leaf(0)), odd(constant(row(1))), odd(node(api.Sub, 0, 1)), odd(call(1, 3)), odd(node(api.Sum, 4))), of(odd(param()), odd(node(api.Neg, 0))))
	valued(t, "odd fields", l, list(row(5, nan)), 0, x, x, row(5, nan), row(1), row(-2, nan), row(2, nan), row(nan))
}
