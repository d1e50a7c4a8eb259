package matrix

import (
	"math"
	"slices"
	"testing"

	"backstitch/api"
)

// huge is where whole numbers end: a 1 that is added to it is rounded away.
const huge = 1 << 53

var (
	less  = math.Copysign(0, -1)
	nan   = math.NaN()
	inf   = math.Inf(1)
	below = math.Inf(-1)
	tiny  = math.SmallestNonzeroFloat64
	great = math.MaxFloat64
)

func ints(l ...int) []int { return l }

func list(l ...float64) []float64 { return l }

func tens(s []int, data ...float64) api.Tensor { return api.Tensor{Shape: s, Data: data} }

func many(s []int) int {
	p := 1
	for _, n := range s {
		p *= n
	}
	return p
}

// filled answers a tensor of that shape whose numbers a rule gives.
func filled(rule func(i int) float64, s ...int) api.Tensor {
	l := make([]float64, many(s))
	for i := range l {
		l[i] = rule(i)
	}
	return tens(s, l...)
}

// counted answers a tensor whose numbers are all unlike, and whole.
func counted(s ...int) api.Tensor {
	return filled(func(i int) float64 { return float64(i*i + 1) }, s...)
}

// mixed answers a tensor with numbers of many sizes: by a rule, so that each run has the same.
func mixed(seed uint64, s ...int) api.Tensor {
	return filled(func(int) float64 {
		seed = seed*6364136223846793005 + 1442695040888963407
		return math.Ldexp(float64(int64(seed)>>11)/(1<<40), int(seed>>5&31)-16)
	}, s...)
}

// alike holds two numbers against each other by their bits, any NaN being as good as another.
func alike(a, b float64) bool {
	return a != a && b != b || math.Float64bits(a) == math.Float64bits(b)
}

func same(a, b api.Tensor) bool {
	return slices.Equal(a.Shape, b.Shape) && slices.EqualFunc(a.Data, b.Data, alike)
}

// check holds an answer of a call against the tensor that is wanted.
func check(t *testing.T, what string, got api.Tensor, e api.Errno, want api.Tensor) {
	t.Helper()
	if e != api.OK || !same(got, want) {
		t.Errorf("%s = %v, %v, want %v", what, got, e, want)
	}
}

// refused wants an error and beside it no tensor.
func refused(t *testing.T, what string, got api.Tensor, e, want api.Errno) {
	t.Helper()
	if e != want || len(got.Shape) != 0 || len(got.Data) != 0 {
		t.Errorf("%s = %v, %v, want %v", what, got, e, want)
	}
}

// none is tensors that may not be, most of them of two places.
func none() []api.Tensor {
	return []api.Tensor{
		{},
		tens(nil, 1, 2),
		tens(ints(1)),
		tens(ints(2), 1),
		tens(ints(2, 2)),
		tens(ints(2, 2), 1, 2, 3),
		tens(ints(2, 2), 1, 2, 3, 4, 5),
		tens(ints(1, 1), 1, 2),
		tens(ints(0, 0)),
		tens(ints(2, 0)),
		tens(ints(0, 2)),
		tens(ints(0, 2), 1, 2),
		tens(ints(-1, 2), 1, 2),
		tens(ints(-1, -2), 1, 2),
		tens(ints(-2, -2), 1, 2, 3, 4),
		tens(ints(math.MinInt, 2), 1, 2),
		tens(ints(math.MaxInt, math.MaxInt), 1),
		tens(ints(1<<32, 1<<32)),
		tens(ints(1, 1, 1, 1, 1), 1),
		counted(1, 4097),
		counted(4097, 1),
		counted(17, 241),
		counted(65, 64),
	}
}

// flat is tensors that may be, but are no matrices.
func flat() []api.Tensor {
	return []api.Tensor{
		tens(nil, 1),
		tens(ints(), 1),
		tens(ints(1), 1),
		counted(2),
		counted(4),
		counted(4096),
		counted(1, 1, 1),
		counted(2, 2, 1),
		counted(1, 2, 2),
		counted(2, 2, 2),
		counted(1, 1, 2, 2),
		counted(2, 2, 1, 1),
	}
}

// sides is shapes of all matrices with at most that many rows and columns.
func sides(most int) [][]int {
	var all [][]int
	for r := 1; r <= most; r++ {
		for c := 1; c <= most; c++ {
			all = append(all, ints(r, c))
		}
	}
	return all
}
