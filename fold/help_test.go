package fold

import (
	"math"
	"math/big"
	"slices"
	"testing"

	"backstitch/api"
)

// huge is where whole numbers end: a 1 that is added to it is rounded away.
const huge = 1 << 53

var (
	less   = math.Copysign(0, -1)
	nan    = math.NaN()
	other  = math.Float64frombits(0xfff0000000000777) // a NaN of another sign and other bits
	inf    = math.Inf(1)
	below  = math.Inf(-1)
	tiny   = math.SmallestNonzeroFloat64
	great  = math.MaxFloat64
	strays = []float64{0, less, 1, -1, 0.1, -1.0 / 3, tiny, -tiny, great, -great, inf, below, nan, other}
)

func ints(l ...int) []int { return l }

func list(l ...float64) []float64 { return l }

func tens(s []int, data ...float64) api.Tensor { return api.Tensor{Shape: s, Data: data} }

func all(l ...api.Tensor) []api.Tensor { return l }

// ones is tensors of shape (1), a number each.
func ones(l ...float64) []api.Tensor {
	var made []api.Tensor
	for _, x := range l {
		made = append(made, tens(ints(1), x))
	}
	return made
}

func times(s []int) int {
	p := 1
	for _, n := range s {
		p *= n
	}
	return p
}

// filled answers a tensor whose numbers follow a rule.
func filled(s []int, f func(i int) float64) api.Tensor {
	l := make([]float64, times(s))
	for i := range l {
		l[i] = f(i)
	}
	return tens(s, l...)
}

// counted answers a tensor whose numbers are all unlike, and whole.
func counted(s ...int) api.Tensor {
	return filled(s, func(i int) float64 { return float64(i*i + 1) })
}

// mixed answers that many tensors with numbers of many sizes and both signs: by a rule, so that each run has the same.
func mixed(seed uint64, many int, s ...int) []api.Tensor {
	l := make([]api.Tensor, many)
	for k := range l {
		l[k] = filled(s, func(int) float64 {
			seed = seed*6364136223846793005 + 1442695040888963407
			return math.Ldexp(float64(int64(seed)>>11)/(1<<40), int(seed>>5&31)-16)
		})
	}
	return l
}

// stray answers that many tensors with all kinds of numbers.
func stray(many int, s ...int) []api.Tensor {
	l := make([]api.Tensor, many)
	for k := range l {
		l[k] = filled(s, func(i int) float64 { return strays[(k*5+i*3+k*i)%len(strays)] })
	}
	return l
}

// alike holds two numbers against each other by their bits, any NaN being as good as another.
func alike(a, b float64) bool {
	return a != a && b != b || math.Float64bits(a) == math.Float64bits(b)
}

func same(a, b api.Tensor) bool {
	return slices.Equal(a.Shape, b.Shape) && slices.EqualFunc(a.Data, b.Data, alike)
}

// plus is a sum rounded once, whatever steps the machine has.
func plus(a, b float64) float64 {
	if a+b != a+b || math.IsInf(a, 0) || math.IsInf(b, 0) || a == 0 && b == 0 {
		return a + b
	}
	exact := new(big.Float).SetPrec(2200).Add(big.NewFloat(a), big.NewFloat(b))
	x, _ := exact.Float64()
	return x
}

// halved is the sentence of real.Fold.
func halved(l []float64) float64 {
	switch len(l) {
	case 0:
		return 0
	case 1:
		return l[0]
	}
	half := (len(l) + 1) / 2
	return plus(halved(l[:half]), halved(l[half:]))
}

// treeBy is Tree's sentence, with what is done with the numbers at one place.
func treeBy(l []api.Tensor, add func(there []float64) float64) api.Tensor {
	return filled(l[0].Shape, func(i int) float64 {
		var there []float64
		for _, t := range l {
			there = append(there, t.Data[i])
		}
		return add(there)
	})
}

// check wants a tensor, and no error beside it.
func check(t *testing.T, what string, got api.Tensor, e api.Errno, want api.Tensor) {
	t.Helper()
	if e != api.OK || !same(got, want) {
		t.Errorf("%s = %v, %v, want %v", what, brief(got), e, brief(want))
	}
}

// brief keeps what a failed test tells short.
func brief(x api.Tensor) api.Tensor {
	return api.Tensor{Shape: x.Shape, Data: x.Data[:min(len(x.Data), 8)]}
}

// refused wants an error, and beside it no tensor.
func refused(t *testing.T, what string, got api.Tensor, e, want api.Errno) {
	t.Helper()
	if e != want || len(got.Shape) != 0 || len(got.Data) != 0 {
		t.Errorf("%s = %v, %v, want %v", what, brief(got), e, want)
	}
}

// checkTree wants a tensor of Tree.
func checkTree(t *testing.T, what string, l []api.Tensor, want api.Tensor) {
	t.Helper()
	got, e := Tree(l)
	check(t, "Tree "+what, got, e, want)
}

// refusedTree wants an error of Tree.
func refusedTree(t *testing.T, what string, l []api.Tensor, want api.Errno) {
	t.Helper()
	got, e := Tree(l)
	refused(t, "Tree "+what, got, e, want)
}

// made wants slots.
func made(t *testing.T, s []int, many int) *Slots {
	t.Helper()
	f, e := New(s, many)
	if e != api.OK || f == nil {
		t.Fatalf("New %v, %d = %v, %v", s, many, f, e)
	}
	return f
}

// put wants Put to answer that error.
func put(t *testing.T, f *Slots, slot int, x api.Tensor, want api.Errno) {
	t.Helper()
	if e := f.Put(slot, x); e != want {
		t.Errorf("Put %d, %v = %v, want %v", slot, brief(x), e, want)
	}
}

// left wants so many slots that are not filled.
func left(t *testing.T, f *Slots, want int) {
	t.Helper()
	if n := f.Left(); n != want {
		t.Errorf("Left = %d, want %d", n, want)
	}
}

// checkValue wants a tensor of Value.
func checkValue(t *testing.T, what string, f *Slots, want api.Tensor) {
	t.Helper()
	got, e := f.Value()
	check(t, "Value "+what, got, e, want)
}

// refusedValue wants ErrArg of Value.
func refusedValue(t *testing.T, what string, f *Slots) {
	t.Helper()
	got, e := f.Value()
	refused(t, "Value "+what, got, e, api.ErrArg)
}

// wrongShapes is shapes that may not be, each with shape.Size's error.
func wrongShapes() []struct {
	s []int
	e api.Errno
} {
	return []struct {
		s []int
		e api.Errno
	}{
		{ints(0), api.ErrShape},
		{ints(-1), api.ErrShape},
		{ints(-2, -3), api.ErrShape},
		{ints(2, 0), api.ErrShape},
		{ints(0, 2), api.ErrShape},
		{ints(math.MinInt), api.ErrShape},
		{ints(1, 1, 1, 1, 1), api.ErrShape},
		{ints(4097, 0), api.ErrShape},
		{ints(4097, 1, 1, 1, 1), api.ErrShape},
		{ints(4097), api.ErrSize},
		{ints(17, 241), api.ErrSize},
		{ints(1, 1, 1, 4097), api.ErrSize},
		{ints(1<<32, 1<<32), api.ErrSize},
		{ints(math.MaxInt, math.MaxInt), api.ErrSize},
	}
}

// wrongTensors is tensors that may not be: their shape may not, or they have too few or too many numbers.
func wrongTensors() []api.Tensor {
	return []api.Tensor{
		{},
		tens(nil, 1, 2),
		tens(ints(), 1, 2),
		tens(ints(1)),
		tens(ints(1), 1, 2),
		tens(ints(2)),
		tens(ints(2), 1),
		tens(ints(2), 1, 2, 3),
		tens(ints(2, 2), 1, 2, 3),
		tens(ints(2, 2), 1, 2, 3, 4, 5),
		tens(ints(4096), 1),
		tens(ints(0)),
		tens(ints(0), 1),
		tens(ints(2, 0)),
		tens(ints(-1), 1),
		tens(ints(-1, -2), 1, 2),
		tens(ints(math.MinInt), 1),
		tens(ints(math.MaxInt, math.MaxInt), 1),
		tens(ints(1<<32, 1<<32)),
		tens(ints(1, 1, 1, 1, 1), 1),
		counted(4097),
		counted(1, 4097),
		counted(65, 64),
	}
}

// someShapes is shapes that may be, from the one without numbers to those at the limit.
func someShapes() [][]int {
	return [][]int{nil, ints(), ints(1), ints(2), ints(1, 1), ints(2, 1), ints(1, 2), ints(3), ints(4), ints(2, 2), ints(2, 3), ints(3, 2), ints(1, 2, 3), ints(2, 1, 3, 1), ints(1, 1, 1, 1), ints(4095), ints(4096), ints(64, 64), ints(1, 1, 4096, 1), ints(8, 8, 8, 8)}
}
