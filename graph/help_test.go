package graph

import (
	"fmt"
	"math"
	"slices"
	"testing"

	"backstitch/api"
)

var nan = math.NaN()

func ints(l ...int) []int { return l }

func sizes(l ...[]int) [][]int { return l }

func tens(s []int, data ...float64) api.Tensor { return api.Tensor{Shape: s, Data: data} }

// noughts is a tensor that may be just if its shape may.
func noughts(s ...int) api.Tensor {
	size := 1
	for _, n := range s {
		if n < 1 || n > 5000 || size > 5000 {
			return tens(s)
		}
		size *= n
	}
	return tens(s, make([]float64, size)...)
}

func node(op int, in ...int) api.Node { return api.Node{Op: op, In: in} }

func param() api.Node { return node(api.Param) }

func leaf(no int) api.Node { return api.Node{Op: api.Leaf, No: no} }

func constant(s ...int) api.Node { return api.Node{Op: api.Const, Val: noughts(s...)} }

// call is a Call of a graph with an input.
func call(no, in int) api.Node { return api.Node{Op: api.Call, No: no, In: ints(in)} }

// to is a node with a shape and an input.
func to(op, in int, s ...int) api.Node { return api.Node{Op: op, In: ints(in), To: s} }

func hooked(n api.Node, l ...api.Hook) api.Node {
	n.Hooks = l
	return n
}

// scales is that many hooks that may be.
func scales(many int) []api.Hook {
	return slices.Repeat([]api.Hook{{Do: api.Scale, X: 2}}, many)
}

func of(l ...api.Node) api.Graph { return api.Graph{L: l} }

func all(l ...api.Graph) []api.Graph { return l }

// wide is a graph of that many nodes, each a Leaf of leaf 0.
func wide(many int) api.Graph { return of(slices.Repeat([]api.Node{leaf(0)}, many)...) }

// often is a graph of a Param and that many Calls of one graph.
func often(many, no int) api.Graph {
	return of(append([]api.Node{param()}, slices.Repeat([]api.Node{call(no, 0)}, many)...)...)
}

// chain is graphs whose Calls within Calls are so deep: each Calls the next one, and the last one none.
func chain(deep int) []api.Graph {
	var l []api.Graph
	for i := range deep {
		l = append(l, of(param(), call(i+1, 0)))
	}
	return append(l, of(param()))
}

// seeds is numbers by a rule, so that each run has the same.
type seeds uint64

func (s *seeds) below(n int) int {
	*s = *s*6364136223846793005 + 1442695040888963407
	return int(uint64(*s) >> 33 % uint64(n))
}

// wrongShapes is shapes that may not be.
func wrongShapes() [][]int {
	return sizes(
		ints(0),
		ints(-1),
		ints(2, 0),
		ints(0, 2),
		ints(-2, -2),
		ints(math.MinInt),
		ints(1, 1, 1, 1, 1),
		ints(4097),
		ints(1, 4097),
		ints(65, 64),
		ints(1<<32, 1<<32),
		ints(math.MaxInt, math.MaxInt),
	)
}

// someShapes is shapes that may be, from the empty one to those at the limit.
func someShapes() [][]int {
	return sizes(nil, ints(), ints(1), ints(2), ints(1, 1), ints(2, 3), ints(1, 2, 3), ints(2, 1, 3, 1), ints(1, 1, 1, 1), ints(4096), ints(64, 64), ints(8, 8, 8, 8))
}

// wrongTensors is tensors that may not be.
func wrongTensors() []api.Tensor {
	l := []api.Tensor{{}, tens(nil, 1, 2), tens(ints(1)), tens(ints(1), 1, 2), tens(ints(2), 1), tens(ints(2, 2), 1, 2, 3), tens(ints(2, 2), 1, 2, 3, 4, 5), tens(ints(0), 1), tens(ints(-1), 1)}
	for _, s := range wrongShapes() {
		l = append(l, noughts(s...))
	}
	return l
}

// wrongHooks is lists of hooks that may not be.
func wrongHooks() [][]api.Hook {
	return [][]api.Hook{
		{{}},
		{{Do: api.Scale - 1}},
		{{Do: api.Finite + 1}},
		{{Do: api.Clip, X: -1}},
		{{Do: api.Clip, X: nan}},
		{{Do: api.Zero, X: 1}},
		{{Do: api.Finite, X: nan}},
		{{Do: api.Scale}, {Do: api.Scale}, {Do: api.Scale}, {}},
		scales(api.MaxHooks + 1),
		scales(api.MaxHooks + 2),
	}
}

// fine wants Check to find nothing.
func fine(t *testing.T, what string, l []api.Graph, leaves [][]int) {
	t.Helper()
	found(t, what, l, leaves, 0, 0, api.OK)
}

// found wants Check to tell of a graph, a node and an error, and Shapes, whatever graph it is asked for, to have that error too.
func found(t *testing.T, what string, l []api.Graph, leaves [][]int, g, at int, want api.Errno) {
	t.Helper()
	i, n, e := Check(l, leaves)
	if i != g || n != at || e != want {
		t.Errorf("%s: Check = %v, %v, %v, want %v, %v, %v", what, i, n, e, g, at, want)
	}
	if want == api.OK {
		return
	}
	for _, h := range ints(0, g, -1, len(l)) {
		unshaped(t, what, l, leaves, h, nil, want)
	}
}

// shaped wants shapes of Shapes.
func shaped(t *testing.T, what string, l []api.Graph, leaves [][]int, g int, param []int, want [][]int) {
	t.Helper()
	got, e := Shapes(l, leaves, g, param)
	if e != api.OK || !slices.EqualFunc(got, want, slices.Equal[[]int]) {
		t.Errorf("%s: Shapes = %v, %v, want %v", what, got, e, want)
	}
}

// unshaped wants an error of Shapes, and beside it no shapes.
func unshaped(t *testing.T, what string, l []api.Graph, leaves [][]int, g int, param []int, want api.Errno) {
	t.Helper()
	got, e := Shapes(l, leaves, g, param)
	if e != want || len(got) != 0 {
		t.Errorf("%s: Shapes = %v, %v, want %v", what, got, e, want)
	}
}

// worked wants an answer of Work, which beside an error is 0.
func worked(t *testing.T, what string, l []api.Graph, g, many int, want api.Errno) {
	t.Helper()
	got, e := Work(l, g)
	if got != many || e != want {
		t.Errorf("%s: Work of %v = %v, %v, want %v, %v", what, g, got, e, many, want)
	}
}

func text(l ...any) string { return fmt.Sprint(l...) }
