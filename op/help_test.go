package op

import (
	"math"
	"slices"
	"testing"

	"backstitch/api"
)

var (
	less   = math.Copysign(0, -1)
	nan    = math.NaN()
	other  = math.Float64frombits(0xfff0000000000777) // a NaN of another sign and other bits
	inf    = math.Inf(1)
	below  = math.Inf(-1)
	tiny   = math.SmallestNonzeroFloat64
	great  = math.MaxFloat64
	strays = []float64{0, less, 1, -1, 0.1, -1.0 / 3, tiny, -tiny, great, -great, inf, below, nan, other}
)

func ints(l ...int) []int { return l }

func list(l ...float64) []float64 { return l }

func tens(s []int, data ...float64) api.Tensor { return api.Tensor{Shape: s, Data: data} }

func ins(l ...api.Tensor) []api.Tensor { return l }

func node(op int) api.Node { return api.Node{Op: op} }

// to is a node with a shape.
func to(op int, s ...int) api.Node { return api.Node{Op: op, To: s} }

// with is a constant.
func with(val api.Tensor) api.Node { return api.Node{Op: api.Const, Val: val} }

func product(s []int) int {
	p := 1
	for _, n := range s {
		p *= n
	}
	return p
}

// counted answers a tensor whose numbers are all unlike, and whole.
func counted(s ...int) api.Tensor {
	l := make([]float64, product(s))
	for i := range l {
		l[i] = float64(i*i + 1)
	}
	return tens(s, l...)
}

// of answers a tensor of shape s, as near as there is one: it may be just if s may.
func of(s []int) api.Tensor {
	for _, n := range s {
		if n < 1 || n > 5000 {
			return tens(s)
		}
	}
	if product(s) > 20000 {
		return tens(s)
	}
	return counted(s...)
}

// shapesOf answers the shapes of tensors.
func shapesOf(in []api.Tensor) [][]int {
	var l [][]int
	for _, x := range in {
		l = append(l, x.Shape)
	}
	return l
}

// alike holds two numbers against each other by their bits, any NaN being as good as another.
func alike(a, b float64) bool {
	return a != a && b != b || math.Float64bits(a) == math.Float64bits(b)
}

func same(a, b api.Tensor) bool {
	return slices.Equal(a.Shape, b.Shape) && slices.EqualFunc(a.Data, b.Data, alike)
}

// check wants a tensor of Value, and its shape of Shape.
func check(t *testing.T, what string, n api.Node, in []api.Tensor, want api.Tensor) {
	t.Helper()
	got, e := Value(n, in)
	if e != api.OK || !same(got, want) {
		t.Errorf("%s: Value = %v, %v, want %v", what, got, e, want)
	}
	checkShape(t, what, n, shapesOf(in), want.Shape)
}

// checkShape wants a shape of Shape.
func checkShape(t *testing.T, what string, n api.Node, in [][]int, want []int) {
	t.Helper()
	got, e := Shape(n, in)
	if e != api.OK || !slices.Equal(got, want) {
		t.Errorf("%s: Shape = %v, %v, want %v", what, got, e, want)
	}
}

// refusedValue wants an error of Value, and beside it no tensor.
func refusedValue(t *testing.T, what string, n api.Node, in []api.Tensor, want api.Errno) {
	t.Helper()
	got, e := Value(n, in)
	if e != want || len(got.Shape) != 0 || len(got.Data) != 0 {
		t.Errorf("%s: Value = %v, %v, want %v", what, got, e, want)
	}
}

// refusedShape wants an error of Shape, and beside it no shape.
func refusedShape(t *testing.T, what string, n api.Node, in [][]int, want api.Errno) {
	t.Helper()
	got, e := Shape(n, in)
	if e != want || len(got) != 0 {
		t.Errorf("%s: Shape = %v, %v, want %v", what, got, e, want)
	}
}

// refused wants one error of both.
func refused(t *testing.T, what string, n api.Node, in []api.Tensor, want api.Errno) {
	t.Helper()
	refusedValue(t, what, n, in, want)
	refusedShape(t, what, n, shapesOf(in), want)
}

// wrongShapes is shapes that may not be; the last ones are too great alone.
func wrongShapes() [][]int {
	return [][]int{
		ints(0),
		ints(-1),
		ints(2, 0),
		ints(0, 2),
		ints(-2, -2),
		ints(-1, 1),
		ints(math.MinInt),
		ints(math.MinInt, 2),
		ints(1, 1, 1, 1, 1),
		ints(2, 2, 2, 2, 2),
		ints(4097),
		ints(1, 4097),
		ints(17, 241),
		ints(65, 64),
		ints(1<<32, 1<<32),
		ints(math.MaxInt, math.MaxInt),
	}
}

// wrongTensors is tensors that may not be: of those shapes, or with too few or too many numbers.
func wrongTensors() []api.Tensor {
	l := []api.Tensor{
		{},
		tens(nil, 1, 2),
		tens(ints(1)),
		tens(ints(1), 1, 2),
		tens(ints(2), 1),
		tens(ints(2), 1, 2, 3),
		tens(ints(2, 2), 1, 2, 3),
		tens(ints(2, 2), 1, 2, 3, 4, 5),
		tens(ints(4096), 1),
		tens(ints(0), 1),
		tens(ints(-1), 1),
		tens(ints(-2, -2), 1, 2, 3, 4),
	}
	for _, s := range wrongShapes() {
		l = append(l, of(s))
	}
	return l
}
