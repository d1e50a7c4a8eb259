package tensor

import (
	"math"
	"slices"
	"testing"

	"backstitch/api"
)

const spare = 4

var (
	minus  = math.Copysign(0, -1)
	nan    = math.NaN()
	other  = math.Float64frombits(0xfff0000000000777) // a NaN of another sign and other bits
	inf    = math.Inf(1)
	below  = math.Inf(-1)
	tiny   = math.SmallestNonzeroFloat64
	great  = math.MaxFloat64
	strays = []float64{0, minus, 1, -1, tiny, -tiny, great, -great, inf, below, nan, other}
)

func ints(l ...int) []int { return l }

func tens(s []int, data ...float64) api.Tensor { return api.Tensor{Shape: s, Data: data} }

// counted answers n numbers, all unlike.
func counted(n int) []float64 {
	l := make([]float64, n)
	for i := range l {
		l[i] = float64(i) - 2.5
	}
	return l
}

// alike holds two numbers against each other by their bits, any NaN being as good as another.
func alike(a, b float64) bool {
	return a != a && b != b || math.Float64bits(a) == math.Float64bits(b)
}

func isZero(t api.Tensor) bool { return len(t.Shape) == 0 && len(t.Data) == 0 }

// wrong is shapes that may not be, each with Size's error.
func wrong() []struct {
	s []int
	e api.Errno
} {
	return []struct {
		s []int
		e api.Errno
	}{
		{ints(0), api.ErrShape},
		{ints(-1), api.ErrShape},
		{ints(-2, -2), api.ErrShape},
		{ints(2, 0), api.ErrShape},
		{ints(math.MinInt), api.ErrShape},
		{ints(1, 1, 1, 1, 1), api.ErrShape},
		{ints(4097, 0), api.ErrShape},
		{ints(4097, 1, 1, 1, 1), api.ErrShape},
		{ints(4097), api.ErrSize},
		{ints(17, 241), api.ErrSize},
		{ints(1<<32, 1<<32), api.ErrSize},
		{ints(math.MaxInt, math.MaxInt), api.ErrSize},
	}
}

// right is shapes that may be, each with its size.
func right() []struct {
	s    []int
	size int
} {
	return []struct {
		s    []int
		size int
	}{
		{nil, 1},
		{ints(), 1},
		{ints(1), 1},
		{ints(1, 1, 1, 1), 1},
		{ints(2), 2},
		{ints(2, 3), 6},
		{ints(3, 1, 2), 6},
		{ints(2, 3, 4, 5), 120},
		{ints(63, 65), 4095},
		{ints(4096), 4096},
		{ints(8, 8, 8, 8), 4096},
		{ints(1, 1, 1, 4096), 4096},
	}
}

func TestMay(t *testing.T) {
	for _, c := range right() {
		for _, n := range []int{0, 1, c.size - 1, c.size, c.size + 1, c.size + 2, 4096, 4097} {
			if got := May(tens(c.s, counted(n)...)); got != (n == c.size) {
				t.Errorf("May of shape %v with %d numbers is %v", c.s, n, got)
			}
		}
		if !May(tens(c.s, slices.Repeat([]float64{nan}, c.size)...)) {
			t.Errorf("the numbers of a tensor of shape %v may be any", c.s)
		}
	}
	for _, c := range wrong() {
		for _, n := range []int{0, 1, 2, 4, 4096, 4097} {
			if May(tens(c.s, counted(n)...)) {
				t.Errorf("there is no tensor of shape %v, with %d numbers or other", c.s, n)
			}
		}
	}
	if May(api.Tensor{}) {
		t.Error("a tensor of no dimension has one number")
	}
}

func TestNew(t *testing.T) {
	for _, c := range right() {
		for _, x := range strays {
			got, e := New(c.s, x)
			if e != api.OK || !slices.Equal(got.Shape, c.s) || len(got.Data) != c.size {
				t.Fatalf("New(%v, %v) has shape %v, %d numbers, %v", c.s, x, got.Shape, len(got.Data), e)
			}
			for i, y := range got.Data {
				if !alike(x, y) {
					t.Fatalf("New(%v, %v) has %v at %d", c.s, x, y, i)
				}
			}
		}
	}
	for _, c := range wrong() {
		if got, e := New(c.s, 1); e != c.e || !isZero(got) {
			t.Errorf("New(%v, 1) = %v, %v, want none, %v", c.s, got, e, c.e)
		}
	}
}

func TestOf(t *testing.T) {
	for _, c := range right() {
		data := counted(c.size)
		copy(data, strays)
		got, e := Of(c.s, data)
		if e != api.OK || !slices.Equal(got.Shape, c.s) || !slices.EqualFunc(got.Data, data, alike) {
			t.Errorf("Of(%v, %v) = %v, %v", c.s, data, got, e)
		}
		for _, n := range []int{0, c.size - 1, c.size + 1, c.size + 100} {
			if got, e := Of(c.s, counted(n)); e != api.ErrArg || !isZero(got) {
				t.Errorf("Of(%v, %d numbers) = %v, %v, want none, %v", c.s, n, got, e, api.ErrArg)
			}
		}
	}
	for _, c := range wrong() {
		for _, n := range []int{0, 1, 4, 4097} {
			if got, e := Of(c.s, counted(n)); e != c.e || !isZero(got) {
				t.Errorf("Of(%v, %d numbers) = %v, %v, want none, %v", c.s, n, got, e, c.e)
			}
		}
	}
}

func TestSame(t *testing.T) {
	for _, c := range []struct {
		a, b api.Tensor
		want bool
	}{
		{tens(nil, 1), tens(nil, 1), true},
		{tens(nil, 1), tens(ints(), 1), true},
		{tens(ints(2), 1, 2), tens(ints(2), 1, 2), true},
		{tens(ints(2), 1, 2), tens(ints(2), 1, 3), false},
		{tens(ints(2), 1, 2), tens(ints(2), 3, 2), false},
		{tens(ints(2), 1, 2), tens(ints(2), 2, 1), false},
		{tens(ints(2), 1, 2), tens(ints(2, 1), 1, 2), false},
		{tens(ints(2), 1, 2), tens(ints(1, 2), 1, 2), false},
		{tens(ints(2, 3), 1, 2, 3, 4, 5, 6), tens(ints(3, 2), 1, 2, 3, 4, 5, 6), false},
		{tens(nil, 1), tens(ints(1), 1), false},
		{tens(ints(1), 1), tens(ints(1), 1+0x1p-52), false},
		// be they tensors or not
		{api.Tensor{}, api.Tensor{}, true},
		{api.Tensor{}, tens(ints(), []float64{}...), true},
		{api.Tensor{}, tens(nil, 0), false},
		{tens(ints(2), 1), tens(ints(2), 1), true},
		{tens(ints(2), 1), tens(ints(2), 1, 2), false},
		{tens(ints(2), 1, 2), tens(ints(2), 1, 2, 3), false},
		{tens(ints(0)), tens(ints(0)), true},
		{tens(ints(0)), tens(nil), false},
		{tens(ints(-1), 1, 2), tens(ints(-1), 1, 2), true},
		{tens(ints(4097), nan), tens(ints(4097), nan), true},
		{tens(ints(1, 1, 1, 1, 1), 1), tens(ints(1, 1, 1, 1, 1), 1), true},
		{tens(ints(1, 1, 1, 1, 1), 1), tens(ints(1, 1, 1, 1), 1), false},
	} {
		if Same(c.a, c.b) != c.want || Same(c.b, c.a) != c.want {
			t.Errorf("Same(%v, %v) is not %v", c.a, c.b, c.want)
		}
	}
}

func TestSameNumbersBitByBit(t *testing.T) {
	for _, x := range strays {
		for _, y := range strays {
			a, b := tens(ints(3), 1, 2, x), tens(ints(3), 1, 2, y)
			if Same(a, b) != alike(x, y) {
				t.Errorf("Same(%v, %v) is not %v", a, b, alike(x, y))
			}
		}
	}
	long := counted(4096)
	for _, i := range []int{0, 1, 2048, 4095} {
		one := slices.Clone(long)
		one[i] = nan
		if Same(tens(ints(4096), long...), tens(ints(4096), one...)) {
			t.Errorf("the numbers at %d are unlike", i)
		}
	}
}

func TestAt(t *testing.T) {
	whole := tens(ints(2, 3), 0, 1, 2, 3, 4, 5)
	far := tens(ints(8, 8, 8, 8), counted(4096)...)
	for _, c := range []struct {
		t    api.Tensor
		at   []int
		want float64
		ok   bool
	}{
		{whole, ints(0, 0), 0, true},
		{whole, ints(0, 1), 1, true},
		{whole, ints(1, 0), 3, true},
		{whole, ints(1, 2), 5, true},
		{tens(nil, 9), nil, 9, true},
		{tens(nil, 9), ints(), 9, true},
		{tens(ints(1, 1), 9), ints(0, 0), 9, true},
		{tens(ints(2), 1, minus), ints(1), minus, true},
		{tens(ints(2), 1, nan), ints(1), nan, true},
		{tens(ints(2), 1, below), ints(1), below, true},
		{far, ints(7, 7, 7, 7), 4095 - 2.5, true},
		{far, ints(7, 7, 7, 6), 4094 - 2.5, true},
		{far, ints(7, 7, 7, 8), 0, false},
		{whole, ints(2, 0), 0, false},
		{whole, ints(0, 3), 0, false},
		{whole, ints(-1, 0), 0, false},
		{whole, ints(1, -1), 0, false},
		{whole, ints(math.MaxInt, math.MaxInt), 0, false},
		{whole, ints(math.MinInt, 0), 0, false},
		{whole, ints(1), 0, false},
		{whole, ints(1, 1, 0), 0, false},
		{whole, nil, 0, false},
		{tens(nil, 9), ints(0), 0, false},
		// no tensors
		{api.Tensor{}, nil, 0, false},
		{tens(ints(2), 1), ints(0), 0, false},
		{tens(ints(2), 1), ints(1), 0, false},
		{tens(ints(2), 1, 2, 3), ints(0), 0, false},
		{tens(nil, 1, 2), nil, 0, false},
		{tens(ints(0), 1), ints(0), 0, false},
		{tens(ints(-1), 1), ints(0), 0, false},
		{tens(ints(4097), counted(4097)...), ints(0), 0, false},
		{tens(ints(1, 1, 1, 1, 1), 7), ints(0, 0, 0, 0, 0), 0, false},
	} {
		if got, ok := At(c.t, c.at); !alike(got, c.want) || ok != c.ok {
			t.Errorf("At(%v, %v) = %v, %v, want %v, %v", c.t, c.at, got, ok, c.want, c.ok)
		}
	}
}

// TestAtGoesByRows: the last number of a place runs first.
func TestAtGoesByRows(t *testing.T) {
	whole := tens(ints(2, 3, 4), counted(24)...)
	for i, want := range whole.Data {
		at := ints(i/12, i/4%3, i%4)
		if got, ok := At(whole, at); got != want || !ok {
			t.Errorf("At(%v) = %v, %v, want %v", at, got, ok, want)
		}
	}
}

// by is something whose methods are handed to Map.
type by struct{ x float64 }

func (b by) times(y float64) float64 { return b.x * y }

// tally keeps what it was asked.
type tally struct{ asked []float64 }

func (a *tally) count(y float64) float64 {
	a.asked = append(a.asked, y)
	return float64(len(a.asked))
}

func TestMapByFunction(t *testing.T) {
	for _, c := range []struct {
		t    api.Tensor
		f    func(float64) float64
		want []float64
	}{
		{tens(nil, 4), math.Sqrt, []float64{2}},
		{tens(ints(2, 2), 1, 4, 9, -1), math.Sqrt, []float64{1, 2, 3, nan}},
		{tens(ints(3), minus, 0, below), math.Abs, []float64{0, 0, inf}},
		{tens(ints(2), 0, 1), func(x float64) float64 { return -x }, []float64{minus, -1}},
		{tens(ints(4), nan, inf, tiny, great), func(x float64) float64 { return x }, []float64{nan, inf, tiny, great}},
		{tens(ints(2), 1, 2), func(float64) float64 { return other }, []float64{nan, nan}},
	} {
		got := Map(c.t, c.f)
		if !slices.Equal(got.Shape, c.t.Shape) || !slices.EqualFunc(got.Data, c.want, alike) {
			t.Errorf("Map(%v) = %v, want %v", c.t, got, c.want)
		}
	}
}

func TestMapByMethodValue(t *testing.T) {
	got := Map(tens(ints(2, 2), 1, 2, minus, inf), by{-10}.times)
	if want := []float64{-10, -20, 0, below}; !slices.Equal(got.Shape, ints(2, 2)) || !slices.EqualFunc(got.Data, want, alike) {
		t.Errorf("Map by a method's value = %v, want %v", got, want)
	}
}

// TestMapAsksOnceInTurn: f is asked once for each number, from the first on.
func TestMapAsksOnceInTurn(t *testing.T) {
	for _, c := range right() {
		var a tally
		data := counted(c.size)
		got := Map(tens(c.s, data...), a.count)
		if !slices.Equal(a.asked, data) {
			t.Errorf("Map of shape %v asked %v", c.s, a.asked)
		}
		if !slices.Equal(got.Shape, c.s) || got.Data[0] != 1 || got.Data[c.size-1] != float64(c.size) {
			t.Errorf("Map of shape %v has what was not answered: %v", c.s, got)
		}
	}
}

func TestMapOfNone(t *testing.T) {
	var a tally
	none := []api.Tensor{{}, tens(ints(2), 1), tens(ints(2), 1, 2, 3), tens(nil, 1, 2), tens(ints(1))}
	for _, c := range wrong() {
		none = append(none, tens(c.s, 1), tens(c.s, counted(4)...), tens(c.s, counted(4097)...))
	}
	for _, x := range none {
		if got := Map(x, a.count); !isZero(got) || len(a.asked) != 0 {
			t.Errorf("Map of shape %v with %d numbers = %v, f asked %d times", x.Shape, len(x.Data), got, len(a.asked))
		}
		if got := Map(x, nil); !isZero(got) {
			t.Errorf("Map of shape %v with %d numbers by nil = %v", x.Shape, len(x.Data), got)
		}
	}
	for _, x := range []api.Tensor{tens(nil, 1), tens(ints(2), 1, 2)} {
		if got := Map(x, nil); !isZero(got) {
			t.Errorf("Map(%v, nil) = %v", x, got)
		}
	}
}

// TestMapByWhatPanics: R1: no call panics, so an f that does has no tensor, wherever it does.
func TestMapByWhatPanics(t *testing.T) {
	x := tens(ints(3), 1, 2, 3)
	var none *tally
	bad := []func(float64) float64{none.count, func(float64) float64 { panic(nil) }}
	for at := 1.0; at <= 3; at++ {
		bad = append(bad, func(y float64) float64 {
			if y == at {
				panic("no such number")
			}
			return 7
		})
	}
	for i, f := range bad {
		if got := Map(x, f); !isZero(got) {
			t.Errorf("Map by f %d, which panics, = %v", i, got)
		}
	}
	if !Same(x, tens(ints(3), 1, 2, 3)) {
		t.Errorf("what was handed in became %v", x)
	}
}

// TestMapIsDeafToWhatFChanges: the tensor that was handed in is the one that is mapped, whatever f does with its lists.
func TestMapIsDeafToWhatFChanges(t *testing.T) {
	x := tens(ints(3), 1, 2, 3)
	got := Map(x, func(y float64) float64 {
		x.Shape[0] = 9
		for i := range x.Data {
			x.Data[i] = 100
		}
		return y + 1
	})
	if !Same(got, tens(ints(3), 2, 3, 4)) {
		t.Errorf("Map = %v", got)
	}
}

func TestFinite(t *testing.T) {
	for _, c := range right() {
		if !Finite(tens(c.s, counted(c.size)...)) {
			t.Errorf("all numbers of shape %v are finite", c.s)
		}
		for _, x := range strays {
			for _, i := range []int{0, c.size / 2, c.size - 1} {
				data := counted(c.size)
				data[i] = x
				want := !(x != x || x > great || x < -great)
				if Finite(tens(c.s, data...)) != want {
					t.Errorf("Finite of shape %v with %v at %d is not %v", c.s, x, i, want)
				}
			}
		}
	}
	for _, x := range []api.Tensor{{}, tens(ints(2), 1), tens(ints(2), 1, 2, 3), tens(nil, 1, 2)} {
		if Finite(x) {
			t.Errorf("Finite(%v)", x)
		}
	}
	for _, c := range wrong() {
		if Finite(tens(c.s)) || Finite(tens(c.s, 1)) || Finite(tens(c.s, counted(4)...)) {
			t.Errorf("there is no tensor of shape %v", c.s)
		}
	}
}

// roomy answers a list with marked spare room behind it.
func roomy[N int | float64](l ...N) []N {
	return append(append(make([]N, 0, len(l)+spare), l...), 77, 78, 79, 80)[:len(l)]
}

// fill writes over the lists of a tensor and their spare room.
func fill(x api.Tensor) {
	for i := range x.Shape[:cap(x.Shape)] {
		x.Shape[:cap(x.Shape)][i] = 99
	}
	for i := range x.Data[:cap(x.Data)] {
		x.Data[:cap(x.Data)][i] = 99
	}
}

// TestMemoryIsApart: R4: what is handed in stays as it is, spare room too, and answers are new memory.
func TestMemoryIsApart(t *testing.T) {
	s, data, at := roomy(2, 2), roomy(1.0, 2, 3, 4), roomy(1, 0)
	x := api.Tensor{Shape: s, Data: data}
	made, _ := New(s, 5)
	of, _ := Of(s, data)
	same := Map(x, func(y float64) float64 { return y })
	for _, answer := range []api.Tensor{made, of, same} {
		fill(answer)
	}
	Of(s, data[:3])
	Map(x, func(float64) float64 { panic("none") })
	May(x)
	Same(x, x)
	Finite(x)
	At(x, at)
	if got := s[:len(s)+spare]; !slices.Equal(got, ints(2, 2, 77, 78, 79, 80)) {
		t.Errorf("the shape became %v", got)
	}
	if got := data[:len(data)+spare]; !slices.Equal(got, []float64{1, 2, 3, 4, 77, 78, 79, 80}) {
		t.Errorf("the numbers became %v", got)
	}
	if got := at[:len(at)+spare]; !slices.Equal(got, ints(1, 0, 77, 78, 79, 80)) {
		t.Errorf("the place became %v", got)
	}
}

// TestNothingIsKept: R4: what is written into a list that was handed in is not seen in an answer.
func TestNothingIsKept(t *testing.T) {
	s, data := roomy(2, 2), roomy(1.0, 2, 3, 4)
	made, _ := New(s, 5)
	of, _ := Of(s, data)
	same := Map(api.Tensor{Shape: s, Data: data}, func(y float64) float64 { return y })
	fill(api.Tensor{Shape: s, Data: data})
	if !Same(made, tens(ints(2, 2), 5, 5, 5, 5)) {
		t.Errorf("New's answer became %v", made)
	}
	for _, answer := range []api.Tensor{of, same} {
		if !Same(answer, tens(ints(2, 2), 1, 2, 3, 4)) {
			t.Errorf("an answer became %v", answer)
		}
	}
}
