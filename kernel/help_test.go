package kernel

import (
	"math"
	"slices"
	"testing"

	"backstitch/api"
)

var (
	less   = math.Copysign(0, -1)
	nan    = math.NaN()
	other  = math.Float64frombits(0xfff0000000000777) // a NaN of another sign and other bits
	inf    = math.Inf(1)
	below  = math.Inf(-1)
	tiny   = math.SmallestNonzeroFloat64
	great  = math.MaxFloat64
	strays = []float64{0, less, 1, -1, 0.1, -1.0 / 3, tiny, -tiny, great, -great, inf, below, nan, other}
)

func ints(l ...int) []int { return l }

func list(l ...float64) []float64 { return l }

func tens(s []int, data ...float64) api.Tensor { return api.Tensor{Shape: s, Data: data} }

// counted answers a tensor whose numbers are all unlike, and whole.
func counted(s ...int) api.Tensor {
	l := make([]float64, many(s))
	for i := range l {
		l[i] = float64(i*i + 1)
	}
	return tens(s, l...)
}

// mixed answers a tensor with numbers of many sizes: by a rule, so that each run has the same.
func mixed(seed uint64, s ...int) api.Tensor {
	l := make([]float64, many(s))
	for i := range l {
		seed = seed*6364136223846793005 + 1442695040888963407
		l[i] = math.Ldexp(float64(int64(seed)>>11)/(1<<40), int(seed>>5&31)-16)
	}
	return tens(s, l...)
}

// many is the product of small numbers.
func many(s []int) int {
	p := 1
	for _, n := range s {
		p *= n
	}
	return p
}

// alike holds two numbers against each other by their bits, any NaN being as good as another.
func alike(a, b float64) bool {
	return a != a && b != b || math.Float64bits(a) == math.Float64bits(b)
}

func same(a, b api.Tensor) bool {
	return slices.Equal(a.Shape, b.Shape) && slices.EqualFunc(a.Data, b.Data, alike)
}

// check holds an answer of a call against the tensor and the error that are wanted; beside an error no tensor is wanted.
func check(t *testing.T, what string, got api.Tensor, e api.Errno, want api.Tensor, wantE api.Errno) {
	t.Helper()
	if e != wantE || !same(got, want) {
		t.Errorf("%s = %v, %v, want %v, %v", what, got, e, want, wantE)
	}
}

// refused is check for a call that answers an error.
func refused(t *testing.T, what string, got api.Tensor, e, wantE api.Errno) {
	t.Helper()
	check(t, what, got, e, api.Tensor{}, wantE)
}

// shapes answers all shapes of at most 4 of these numbers.
func shapes(numbers ...int) [][]int {
	all := [][]int{nil}
	from := 0
	for range 4 {
		to := len(all)
		for _, s := range all[from:to] {
			for _, x := range numbers {
				all = append(all, append(slices.Clone(s), x))
			}
		}
		from = to
	}
	return all
}

// none is tensors that may not be.
func none() []api.Tensor {
	return []api.Tensor{
		{},
		tens(ints(2), 1),
		tens(ints(2), 1, 2, 3),
		tens(nil, 1, 2),
		tens(ints(1)),
		tens(ints(0)),
		tens(ints(0), 1),
		tens(ints(-1), 1),
		tens(ints(-1, -1), 1),
		tens(ints(2, 0)),
		tens(ints(math.MinInt), 1),
		tens(ints(math.MaxInt, math.MaxInt), 1),
		tens(ints(1<<32, 1<<32)),
		tens(ints(1, 1, 1, 1, 1), 1),
		counted(4097),
		counted(17, 241),
	}
}

// joined is the shape to which small shapes are broadcast, as P1.2 says, the shorter one led by ones.
func joined(a, b []int) (s []int, ok bool) {
	for len(a) < len(b) {
		a = append([]int{1}, a...)
	}
	for len(b) < len(a) {
		b = append([]int{1}, b...)
	}
	for k := range a {
		if a[k] != b[k] && a[k] != 1 && b[k] != 1 {
			return nil, false
		}
		s = append(s, max(a[k], b[k]))
	}
	return s, true
}

// under is the index of the number of shape from that falls on number i of shape to: place by place, from the last.
func under(from, to []int, i int) int {
	j, step := 0, 1
	for k := 1; k <= len(to); k++ {
		n := to[len(to)-k]
		at := i % n
		i /= n
		if k > len(from) {
			continue
		}
		if m := from[len(from)-k]; m != 1 {
			j += at * step
			step *= m
		}
	}
	return j
}

// halved is Fold's sentence.
func halved(l []float64) float64 {
	if len(l) == 1 {
		return l[0]
	}
	half := (len(l) + 1) / 2
	return halved(l[:half]) + halved(l[half:])
}
