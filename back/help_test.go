package back

import (
	"fmt"
	"math"
	"slices"
	"testing"

	"backstitch/api"
)

// huge is where whole numbers end: a 1 that is added to it is rounded away.
const huge = 1 << 53

var (
	less  = math.Copysign(0, -1)
	nan   = math.NaN()
	other = math.Float64frombits(0xfff0000000000777) // a NaN of another sign and other bits
	inf   = math.Inf(1)
	below = math.Inf(-1)
	tiny  = math.SmallestNonzeroFloat64
	great = math.MaxFloat64
)

func ints(l ...int) []int { return l }

func text(l ...any) string { return fmt.Sprint(l...) }

func tens(s []int, data ...float64) api.Tensor { return api.Tensor{Shape: s, Data: data} }

func list(l ...api.Tensor) []api.Tensor { return l }

// row is a tensor of one place.
func row(data ...float64) api.Tensor { return tens(ints(len(data)), data...) }

// single is a tensor of no places.
func single(x float64) api.Tensor { return tens(nil, x) }

// none is what stands where there is no tensor.
func none() api.Tensor { return api.Tensor{} }

// filled is a tensor whose numbers are all x.
func filled(x float64, s ...int) api.Tensor {
	size := 1
	for _, n := range s {
		size *= n
	}
	return tens(s, slices.Repeat([]float64{x}, size)...)
}

// counted is a tensor whose numbers are all unlike, and whole.
func counted(s ...int) api.Tensor {
	t := filled(0, s...)
	for i := range t.Data {
		t.Data[i] = float64(i + 1)
	}
	return t
}

func node(op int, in ...int) api.Node { return api.Node{Op: op, In: in} }

func param() api.Node { return node(api.Param) }

func leaf(no int) api.Node { return api.Node{Op: api.Leaf, No: no} }

func constant(t api.Tensor) api.Node { return api.Node{Op: api.Const, Val: t} }

// call is a Call of a graph with an input.
func call(no, in int) api.Node { return api.Node{Op: api.Call, No: no, In: ints(in)} }

// to is a node with a shape and an input.
func to(op, in int, s ...int) api.Node { return api.Node{Op: op, In: ints(in), To: s} }

// hooked is a node with hooks.
func hooked(n api.Node, l ...api.Hook) api.Node {
	n.Hooks = l
	return n
}

func scale(x float64) api.Hook { return api.Hook{Do: api.Scale, X: x} }

func clip(x float64) api.Hook { return api.Hook{Do: api.Clip, X: x} }

func zero() api.Hook { return api.Hook{Do: api.Zero} }

func finite() api.Hook { return api.Hook{Do: api.Finite} }

// times is a node that gives its input its own gradient x times, and has its input's negative forward.
func times(x float64, in int) api.Node { return hooked(node(api.Neg, in), scale(-x)) }

func of(l ...api.Node) api.Graph { return api.Graph{L: l} }

func all(l ...api.Graph) []api.Graph { return l }

// wide is a graph of that many nodes, each a Leaf of leaf 0.
func wide(many int) api.Graph { return of(slices.Repeat([]api.Node{leaf(0)}, many)...) }

// often is a graph of a Param and that many Calls of one graph.
func often(many, no int) api.Graph {
	return of(append([]api.Node{param()}, slices.Repeat([]api.Node{call(no, 0)}, many)...)...)
}

// chain is graphs whose Calls within Calls are so deep: each adds what it is given to what the next one makes of it, and the last one leaves it as it is.
func chain(deep int) []api.Graph {
	var l []api.Graph
	for i := range deep {
		l = append(l, of(param(), call(i+1, 0), node(api.Add, 0, 1)))
	}
	return append(l, of(param()))
}

// asking is an Ask of the last node of graph 0, as deep as may be, with nothing stale.
func asking(l []api.Graph, leaves []api.Tensor, seed api.Tensor) Ask {
	return Ask{Graphs: l, Leaves: leaves, Root: len(l[0].L) - 1, Seed: seed, Deep: api.MaxDepth, Stale: make([]bool, len(leaves))}
}

// from is the Ask with another root.
func (a Ask) from(root int) Ask {
	a.Root = root
	return a
}

// graph is the Ask of the last node of another graph.
func (a Ask) graph(g int) Ask {
	a.Graph, a.Root = g, len(a.Graphs[g].L)-1
	return a
}

func (a Ask) param(t api.Tensor) Ask {
	a.Param = t
	return a
}

func (a Ask) deep(n int) Ask {
	a.Deep = n
	return a
}

// stale is the Ask with leaves that are stale.
func (a Ask) stale(l ...int) Ask {
	a.Stale = make([]bool, len(a.Leaves))
	for _, i := range l {
		a.Stale[i] = true
	}
	return a
}

// alike holds two numbers against each other by their bits, any NaN being as good as another.
func alike(a, b float64) bool {
	return a != a && b != b || math.Float64bits(a) == math.Float64bits(b)
}

func same(a, b api.Tensor) bool {
	return slices.Equal(a.Shape, b.Shape) && slices.EqualFunc(a.Data, b.Data, alike)
}

// comes wants Run to answer what comes to the Param (none, if there is none) and to each leaf.
func comes(t *testing.T, what string, a Ask, param api.Tensor, leaf ...api.Tensor) {
	t.Helper()
	for range 2 {
		got := Run(a)
		if got.Err != api.OK || got.Node != 0 || !same(got.Param, param) || !slices.EqualFunc(got.Leaf, leaf, same) {
			t.Errorf("%s: Run = %s, want %s and for the Param %s", what, short(got), short(leaf), short(param))
		}
	}
}

// fails wants Run to answer an error of a node, and no gradients.
func fails(t *testing.T, what string, a Ask, node int, want api.Errno) {
	t.Helper()
	for range 2 {
		got := Run(a)
		if got.Err != want || got.Node != node || len(got.Leaf) != 0 || len(got.Param.Shape) != 0 || len(got.Param.Data) != 0 {
			t.Errorf("%s: Run = %s, want %v of node %v", what, short(got), want, node)
		}
	}
}

// refused wants an error ahead of all.
func refused(t *testing.T, what string, a Ask, want api.Errno) {
	t.Helper()
	fails(t, what, a, -1, want)
}

// short tells something, though not at length.
func short(x any) string {
	told := text(x)
	if len(told) > 500 {
		return told[:500] + " .."
	}
	return told
}

// wrongTensors is tensors that may not be: by their shape, or by how many numbers they have.
func wrongTensors() []api.Tensor {
	return append(wrongShapes(),
		api.Tensor{}, tens(ints()), tens(nil, 1, 2), tens(ints(1)), tens(ints(1), 1, 2), tens(ints(2), 1), tens(ints(2), 1, 2, 3),
		tens(ints(2, 2), 1, 2, 3), tens(ints(2, 2), 1, 2, 3, 4, 5), tens(ints(4096)), tens(ints(64, 64), counted(4095).Data...), tens(ints(64, 64), counted(4097).Data...))
}

// wrongShapes is tensors whose shape may not be, most of them with as many numbers as it would have.
func wrongShapes() []api.Tensor {
	return list(
		counted(0), counted(2, 0), tens(ints(0), 1), tens(ints(-1), 1), tens(ints(-1)), counted(-2, -2), tens(ints(math.MinInt)),
		counted(1, 1, 1, 1, 1), counted(4097), counted(65, 64), tens(ints(1<<32, 1<<32)), tens(ints(math.MaxInt, math.MaxInt), 1))
}
