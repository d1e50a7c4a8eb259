package eval

import (
	"fmt"
	"math"
	"slices"
	"testing"

	"backstitch/api"
)

var (
	less  = math.Copysign(0, -1)
	nan   = math.NaN()
	other = math.Float64frombits(0xfff0000000000777) // a NaN of another sign and other bits
	inf   = math.Inf(1)
	below = math.Inf(-1)
	tiny  = math.SmallestNonzeroFloat64
	great = math.MaxFloat64
)

func ints(l ...int) []int { return l }

func text(l ...any) string { return fmt.Sprint(l...) }

func tens(s []int, data ...float64) api.Tensor { return api.Tensor{Shape: s, Data: data} }

func list(l ...api.Tensor) []api.Tensor { return l }

// row is a tensor of one place.
func row(data ...float64) api.Tensor { return tens(ints(len(data)), data...) }

// single is a tensor of no places.
func single(x float64) api.Tensor { return tens(nil, x) }

// counted is a tensor whose numbers are all unlike, and whole.
func counted(s ...int) api.Tensor {
	size := 1
	for _, n := range s {
		size *= n
	}
	l := make([]float64, size)
	for i := range l {
		l[i] = float64(i + 1)
	}
	return tens(s, l...)
}

// filled is a tensor whose numbers are all x.
func filled(x float64, s ...int) api.Tensor {
	t := counted(s...)
	for i := range t.Data {
		t.Data[i] = x
	}
	return t
}

func node(op int, in ...int) api.Node { return api.Node{Op: op, In: in} }

func param() api.Node { return node(api.Param) }

func leaf(no int) api.Node { return api.Node{Op: api.Leaf, No: no} }

func constant(t api.Tensor) api.Node { return api.Node{Op: api.Const, Val: t} }

// call is a Call of a graph with an input.
func call(no, in int) api.Node { return api.Node{Op: api.Call, No: no, In: ints(in)} }

// to is a node with a shape and an input.
func to(op, in int, s ...int) api.Node { return api.Node{Op: op, In: ints(in), To: s} }

func of(l ...api.Node) api.Graph { return api.Graph{L: l} }

func all(l ...api.Graph) []api.Graph { return l }

// wide is a graph of that many nodes, each a Leaf of leaf 0.
func wide(many int) api.Graph { return of(slices.Repeat([]api.Node{leaf(0)}, many)...) }

// often is a graph of a Param and that many Calls of one graph.
func often(many, no int) api.Graph {
	return of(append([]api.Node{param()}, slices.Repeat([]api.Node{call(no, 0)}, many)...)...)
}

// chain is graphs whose Calls within Calls are so deep: each adds what it is given to what the next one makes of it, and the last one leaves it as it is.
func chain(deep int) []api.Graph {
	var l []api.Graph
	for i := range deep {
		l = append(l, of(param(), call(i+1, 0), node(api.Add, 0, 1)))
	}
	return append(l, of(param()))
}

// alike holds two numbers against each other by their bits, any NaN being as good as another.
func alike(a, b float64) bool {
	return a != a && b != b || math.Float64bits(a) == math.Float64bits(b)
}

func same(a, b api.Tensor) bool {
	return slices.Equal(a.Shape, b.Shape) && slices.EqualFunc(a.Data, b.Data, alike)
}

// valued wants tensors of All.
func valued(t *testing.T, what string, l []api.Graph, leaves []api.Tensor, g int, param api.Tensor, want ...api.Tensor) {
	t.Helper()
	for range 2 {
		got, e := All(l, leaves, g, param)
		if e != api.OK || !slices.EqualFunc(got, want, same) {
			t.Errorf("%s: All = %s, %v, want %s", what, short(got), e, short(want))
		}
	}
}

// lasts wants All to answer as many tensors as there are nodes, and this one as the last.
func lasts(t *testing.T, what string, l []api.Graph, leaves []api.Tensor, g int, param, want api.Tensor) {
	t.Helper()
	got, e := All(l, leaves, g, param)
	if e != api.OK || len(got) != len(l[g].L) || !same(got[len(got)-1], want) {
		t.Errorf("%s: All = %s, %v, want %s as the last one", what, short(got), e, short(list(want)))
	}
}

// refused wants an error of All, and beside it no tensors.
func refused(t *testing.T, what string, l []api.Graph, leaves []api.Tensor, g int, param api.Tensor, want api.Errno) {
	t.Helper()
	for range 2 {
		got, e := All(l, leaves, g, param)
		if e != want || len(got) != 0 {
			t.Errorf("%s: All = %s, %v, want %v", what, short(got), e, want)
		}
	}
}

// short tells tensors, though not at length.
func short(l []api.Tensor) string {
	told := text(l)
	if len(told) > 500 {
		return text(len(l), " tensors: ", told[:500], " ..")
	}
	return told
}

// wrongTensors is tensors that may not be: by their shape, or by how many numbers they have.
func wrongTensors() []api.Tensor {
	return append(wrongShapes(),
		api.Tensor{}, tens(ints()), tens(nil, 1, 2), tens(ints(1)), tens(ints(1), 1, 2), tens(ints(2), 1), tens(ints(2), 1, 2, 3),
		tens(ints(2, 2), 1, 2, 3), tens(ints(2, 2), 1, 2, 3, 4, 5), tens(ints(4096)), tens(ints(64, 64), counted(4095).Data...), tens(ints(64, 64), counted(4097).Data...))
}

// wrongShapes is tensors whose shape may not be, most of them with as many numbers as it would have.
func wrongShapes() []api.Tensor {
	return list(
		counted(0), counted(2, 0), tens(ints(0), 1), tens(ints(-1), 1), tens(ints(-1)), counted(-2, -2), tens(ints(math.MinInt)),
		counted(1, 1, 1, 1, 1), counted(4097), counted(65, 64), tens(ints(1<<32, 1<<32)), tens(ints(math.MaxInt, math.MaxInt), 1))
}
