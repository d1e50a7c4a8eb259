package rule

import (
	"math"
	"slices"
	"testing"

	"backstitch/api"
	"backstitch/op"
)

// huge is where whole numbers end: a 1 that is added to it is rounded away.
const huge = 1 << 53

var (
	less   = math.Copysign(0, -1)
	nan    = math.NaN()
	other  = math.Float64frombits(0xfff0000000000777) // a NaN of another sign and other bits
	inf    = math.Inf(1)
	below  = math.Inf(-1)
	tiny   = math.SmallestNonzeroFloat64
	great  = math.MaxFloat64
	strays = []float64{0, less, 1, -1, 0.1, -1.0 / 3, tiny, -tiny, great, -great, inf, below, nan, other}
)

func ints(l ...int) []int { return l }

func list(l ...float64) []float64 { return l }

func tens(s []int, data ...float64) api.Tensor { return api.Tensor{Shape: s, Data: data} }

func ins(l ...api.Tensor) []api.Tensor { return l }

func node(op int) api.Node { return api.Node{Op: op} }

// to is a node with a shape.
func to(op int, s ...int) api.Node { return api.Node{Op: op, To: s} }

// with is a constant.
func with(val api.Tensor) api.Node { return api.Node{Op: api.Const, Val: val} }

func times(s []int) int {
	p := 1
	for _, n := range s {
		p *= n
	}
	return p
}

// filled answers a tensor whose numbers follow a rule.
func filled(s []int, f func(i int) float64) api.Tensor {
	l := make([]float64, times(s))
	for i := range l {
		l[i] = f(i)
	}
	return tens(s, l...)
}

// counted answers a tensor whose numbers are all unlike, and whole.
func counted(s ...int) api.Tensor {
	return filled(s, func(i int) float64 { return float64(i*i + 1) })
}

// uneven answers a tensor whose numbers are unlike, of both signs, and no sum of two of which is exact.
func uneven(seed float64, s ...int) api.Tensor {
	return filled(s, func(i int) float64 { return math.Sin(seed + float64(i)*1.7) })
}

// stray answers a tensor with all kinds of numbers, from another one on for each from.
func stray(from int, s ...int) api.Tensor {
	return filled(s, func(i int) float64 { return strays[(from+i*5)%len(strays)] })
}

// ruled is the operators that have a rule.
func ruled() []int {
	return ints(api.Const, api.Add, api.Sub, api.Mul, api.Div, api.Neg, api.Exp, api.Log, api.Relu, api.Matmul, api.Sum, api.Broadcast, api.Reshape)
}

// alike holds two numbers against each other by their bits, any NaN being as good as another.
func alike(a, b float64) bool {
	return a != a && b != b || math.Float64bits(a) == math.Float64bits(b)
}

func same(a, b api.Tensor) bool {
	return slices.Equal(a.Shape, b.Shape) && slices.EqualFunc(a.Data, b.Data, alike)
}

// value is what n makes of its inputs.
func value(t *testing.T, n api.Node, in []api.Tensor) api.Tensor {
	t.Helper()
	out, e := op.Value(n, in)
	if e != api.OK {
		t.Fatalf("%s: Value tells %v", op.Name(n.Op), e)
	}
	return out
}

// checkOut wants tensors of Back.
func checkOut(t *testing.T, what string, n api.Node, in []api.Tensor, out, grad api.Tensor, want ...api.Tensor) {
	t.Helper()
	got, e := Back(n, in, out, grad)
	if e != api.OK || !slices.EqualFunc(got, want, same) {
		t.Errorf("%s: Back = %v, %v, want %v", what, got, e, want)
	}
}

// check wants tensors of Back, where the output is what comes of the inputs.
func check(t *testing.T, what string, n api.Node, in []api.Tensor, grad api.Tensor, want ...api.Tensor) {
	t.Helper()
	checkOut(t, what, n, in, value(t, n, in), grad, want...)
}

// refused wants an error of Back, and beside it no tensors.
func refused(t *testing.T, what string, n api.Node, in []api.Tensor, out, grad api.Tensor, want api.Errno) {
	t.Helper()
	got, e := Back(n, in, out, grad)
	if e != want || len(got) != 0 {
		t.Errorf("%s: Back = %v, %v, want %v", what, got, e, want)
	}
}

// wrongTensors is tensors that may not be: their shape may not, or they have too few or too many numbers.
func wrongTensors() []api.Tensor {
	return []api.Tensor{
		{},
		tens(nil, 1, 2),
		tens(ints(1)),
		tens(ints(1), 1, 2),
		tens(ints(2), 1),
		tens(ints(2), 1, 2, 3),
		tens(ints(1, 1)),
		tens(ints(1, 1), 1, 2),
		tens(ints(2, 2), 1, 2, 3),
		tens(ints(4096), 1),
		tens(ints(0)),
		tens(ints(0), 1),
		tens(ints(1, 0)),
		tens(ints(-1), 1),
		tens(ints(-1, -1), 1),
		tens(ints(-2, -2), 1, 2, 3, 4),
		tens(ints(math.MinInt), 1),
		tens(ints(math.MaxInt, math.MaxInt), 1),
		tens(ints(1<<32, 1<<32)),
		tens(ints(1, 1, 1, 1, 1), 1),
		counted(4097),
		counted(1, 4097),
		counted(65, 64),
	}
}
