package hook

import (
	"math"
	"math/big"
	"slices"
	"testing"

	"backstitch/api"
)

var (
	less   = math.Copysign(0, -1)
	nan    = math.NaN()
	other  = math.Float64frombits(0xfff0000000000777) // a NaN of another sign and other bits
	inf    = math.Inf(1)
	below  = math.Inf(-1)
	tiny   = math.SmallestNonzeroFloat64
	great  = math.MaxFloat64
	strays = []float64{0, less, 1, -1, 2, -2, 0.1, -1.0 / 3, tiny, -tiny, great, -great, inf, below, nan, other}
)

func ints(l ...int) []int { return l }

func list(l ...float64) []float64 { return l }

func tens(s []int, data ...float64) api.Tensor { return api.Tensor{Shape: s, Data: data} }

func hooks(l ...api.Hook) []api.Hook { return l }

func scale(x float64) api.Hook { return api.Hook{Do: api.Scale, X: x} }

func clip(x float64) api.Hook { return api.Hook{Do: api.Clip, X: x} }

func zero() api.Hook { return api.Hook{Do: api.Zero} }

func finite() api.Hook { return api.Hook{Do: api.Finite} }

// filled answers a tensor whose numbers follow a rule.
func filled(s []int, f func(i int) float64) api.Tensor {
	size := 1
	for _, n := range s {
		size *= n
	}
	l := make([]float64, size)
	for i := range l {
		l[i] = f(i)
	}
	return tens(s, l...)
}

// counted answers a tensor whose numbers are all unlike, and whole.
func counted(s ...int) api.Tensor {
	return filled(s, func(i int) float64 { return float64(i*i + 1) })
}

// mixed answers a tensor with numbers of many sizes and both signs: by a rule, so that each run has the same.
func mixed(seed uint64, s ...int) api.Tensor {
	return filled(s, func(int) float64 {
		seed = seed*6364136223846793005 + 1442695040888963407
		return math.Ldexp(float64(int64(seed)>>11)/(1<<40), int(seed>>5&31)-16)
	})
}

// alike holds two numbers against each other by their bits, any NaN being as good as another.
func alike(a, b float64) bool {
	return a != a && b != b || math.Float64bits(a) == math.Float64bits(b)
}

func same(a, b api.Tensor) bool {
	return slices.Equal(a.Shape, b.Shape) && slices.EqualFunc(a.Data, b.Data, alike)
}

// brief keeps what a failed test tells short.
func brief(x api.Tensor) api.Tensor {
	return api.Tensor{Shape: x.Shape, Data: x.Data[:min(len(x.Data), 8)]}
}

// product is a product rounded once, whatever steps the machine has.
func product(a, b float64) float64 {
	if x := a * b; x != x || a == 0 || b == 0 || math.IsInf(a, 0) || math.IsInf(b, 0) {
		return x
	}
	exact := new(big.Float).SetPrec(200).Mul(big.NewFloat(a), big.NewFloat(b))
	x, _ := exact.Float64()
	return x
}

// expected is the chapter's sentence, number by number.
func expected(l []api.Hook, t api.Tensor) (api.Tensor, api.Errno) {
	data := slices.Clone(t.Data)
	for _, h := range l {
		for i, x := range data {
			switch {
			case h.Do == api.Scale:
				data[i] = product(x, h.X)
			case h.Do == api.Zero:
				data[i] = 0
			case h.Do == api.Finite && !(math.Abs(x) <= great):
				return api.Tensor{}, api.ErrHook
			case h.Do == api.Clip && x < -h.X:
				data[i] = -h.X
			case h.Do == api.Clip && x > h.X:
				data[i] = h.X
			}
		}
	}
	return tens(t.Shape, data...), api.OK
}

// check wants a tensor of Do, and no error beside it.
func check(t *testing.T, l []api.Hook, x, want api.Tensor) {
	t.Helper()
	got, e := Do(l, x)
	if e != api.OK || !same(got, want) {
		t.Errorf("Do(%v, %v) = %v, %v, want %v", l, brief(x), brief(got), e, brief(want))
	}
}

// refused wants an error of Do, and beside it no tensor.
func refused(t *testing.T, l []api.Hook, x api.Tensor, want api.Errno) {
	t.Helper()
	got, e := Do(l, x)
	if e != want || len(got.Shape) != 0 || len(got.Data) != 0 {
		t.Errorf("Do(%v, %v) = %v, %v, want %v", l, brief(x), brief(got), e, want)
	}
}

// rows checks a hook for numbers one by one: each with what it becomes.
func rows(t *testing.T, h api.Hook, l []float64, want []float64) {
	t.Helper()
	check(t, hooks(h), tens(ints(len(l)), l...), tens(ints(len(l)), want...))
	for i, x := range l {
		check(t, hooks(h), tens(nil, x), tens(nil, want[i]))
	}
}

// goodHooks is hooks that may be.
func goodHooks() []api.Hook {
	l := hooks(zero(), api.Hook{Do: api.Zero, X: less}, finite(), api.Hook{Do: api.Finite, X: less})
	for _, x := range strays {
		l = append(l, scale(x))
	}
	for _, x := range list(0, less, tiny, 0.1, 1, 2, great, inf) {
		l = append(l, clip(x))
	}
	return l
}

// wrongHooks is hooks that may not be.
func wrongHooks() []api.Hook {
	var l []api.Hook
	for _, do := range ints(math.MinInt, math.MinInt+api.Scale, -api.Finite, -api.Scale, api.Scale-1, api.Finite+1, api.Finite+2, 1<<8+api.Scale, 1<<16+api.Scale, 1<<32+api.Scale, math.MaxInt) {
		for _, x := range strays {
			l = append(l, api.Hook{Do: do, X: x})
		}
	}
	for _, x := range list(-tiny, -0.1, -1, -great, below, nan, other) {
		l = append(l, clip(x))
	}
	for _, do := range ints(api.Zero, api.Finite) {
		for _, x := range list(tiny, -tiny, 0.1, 1, -1, great, -great, inf, below, nan, other) {
			l = append(l, api.Hook{Do: do, X: x})
		}
	}
	return l
}

// wrongTensors is tensors that may not be: their shape may not, or they have too few or too many numbers.
func wrongTensors() []api.Tensor {
	return []api.Tensor{
		{},
		tens(nil, 1, 2),
		tens(ints(), 1, 2),
		tens(ints(1)),
		tens(ints(1), 1, 2),
		tens(ints(2)),
		tens(ints(2), 1),
		tens(ints(2), 1, nan, inf),
		tens(ints(2, 2), 1, 2, 3),
		tens(ints(2, 2), 1, 2, 3, 4, 5),
		tens(ints(4096), 1),
		tens(ints(0)),
		tens(ints(0), 1),
		tens(ints(2, 0)),
		tens(ints(-1), 1),
		tens(ints(-1, -2), 1, 2),
		tens(ints(math.MinInt), 1),
		tens(ints(math.MaxInt, math.MaxInt), 1),
		tens(ints(1<<32, 1<<32)),
		tens(ints(1, 1, 1, 1, 1), 1),
		counted(4097),
		counted(1, 4097),
		counted(65, 64),
	}
}

// someShapes is shapes that may be, from the empty one to those at the limit.
func someShapes() [][]int {
	return [][]int{nil, ints(), ints(1), ints(2), ints(1, 1), ints(2, 1), ints(1, 2), ints(3), ints(2, 3), ints(1, 2, 3), ints(2, 1, 3, 1), ints(1, 1, 1, 1), ints(4095), ints(4096), ints(64, 64), ints(1, 1, 4096, 1), ints(8, 8, 8, 8)}
}
