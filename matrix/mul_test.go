package matrix

import (
	"fmt"
	"math"
	"math/big"
	"slices"
	"testing"

	"backstitch/api"
)

func TestMul(t *testing.T) {
	a, b := tens(ints(2, 3), 1, 2, 3, 4, 5, 6), tens(ints(3, 2), 7, 8, 9, 10, 11, 12)
	row, column := tens(ints(1, 2), 1, 2), tens(ints(2, 1), 3, 4)
	for _, c := range []struct{ a, b, want api.Tensor }{
		{a, b, tens(ints(2, 2), 58, 64, 139, 154)},
		{b, a, tens(ints(3, 3), 39, 54, 69, 49, 68, 87, 59, 82, 105)},
		{row, column, tens(ints(1, 1), 11)},
		{column, row, tens(ints(2, 2), 3, 6, 4, 8)},
		{tens(ints(1, 1), 3), tens(ints(1, 1), -5), tens(ints(1, 1), -15)},
		{tens(ints(1, 1), 3), tens(ints(1, 3), 1, 2, 3), tens(ints(1, 3), 3, 6, 9)},
		{tens(ints(3, 1), 1, 2, 3), tens(ints(1, 1), 3), tens(ints(3, 1), 3, 6, 9)},
		{tens(ints(1, 3), 1, 2, 3), b, tens(ints(1, 2), 58, 64)},
		{a, tens(ints(3, 1), 1, 0, -1), tens(ints(2, 1), -2, -2)},
		{tens(ints(2, 2), 1, 2, 3, 4), tens(ints(2, 2), 0, 1, 1, 0), tens(ints(2, 2), 2, 1, 4, 3)},
		{tens(ints(2, 2), 0, 1, 1, 0), tens(ints(2, 2), 1, 2, 3, 4), tens(ints(2, 2), 3, 4, 1, 2)},
	} {
		got, e := Mul(c.a, c.b)
		check(t, fmt.Sprint("Mul ", c.a, c.b), got, e, c.want)
	}
}

// TestMulOfStrays: a row begins at 0, so that no -0 comes of it; what is no number is never left out, though it is times 0.
func TestMulOfStrays(t *testing.T) {
	for _, c := range []struct {
		row, column []float64
		want        float64
	}{
		{list(less), list(1), 0},
		{list(0), list(-1), 0},
		{list(less), list(less), 0},
		{list(less, 0), list(1, -1), 0},
		{list(less, less, less), list(1, 1, 1), 0},
		{list(-tiny), list(tiny), 0}, // the product is -0
		{list(1, -1), list(1, 1), 0},
		{list(tiny), list(0.5), 0},
		{list(tiny), list(0.75), tiny},
		{list(tiny, tiny), list(1, 1), 2 * tiny},
		{list(nan), list(0), nan},
		{list(0), list(nan), nan},
		{list(1, nan, 1), list(1, 1, 1), nan},
		{list(inf), list(0), nan},
		{list(0, 1), list(below, 1), nan},
		{list(inf, 1), list(1, 1), inf},
		{list(inf), list(-2), below},
		{list(inf, inf), list(1, 1), inf},
		{list(inf, inf), list(1, -1), nan},
		{list(below, 1), list(below, below), nan},
		{list(great), list(2), inf},
		{list(great), list(-2), below},
		{list(great, great), list(1, 1), inf},
		{list(great, great, -great), list(1, 1, 1), inf}, // too great on the way
		{list(great, -great, great), list(1, 1, 1), great},
		{list(great, great), list(2, -2), nan}, // each product is too great by itself
	} {
		got, e := Mul(tens(ints(1, len(c.row)), c.row...), tens(ints(len(c.column), 1), c.column...))
		check(t, fmt.Sprint("Mul ", c.row, c.column), got, e, tens(ints(1, 1), c.want))
	}
	got, e := Mul(tens(ints(2, 2), nan, 1, 0, 1), tens(ints(2, 2), 1, 2, inf, 4))
	check(t, "a NaN and an infinity", got, e, tens(ints(2, 2), nan, nan, inf, 4))
}

// TestMulAddsInTurn: from the first on, not by halves, not from the last, not those of a kind first.
func TestMulAddsInTurn(t *testing.T) {
	ones := list(1, 1, 1, 1)
	for _, c := range []struct {
		row, column []float64
		want        float64
	}{
		{list(huge, 1, 1, 1), ones, huge},
		{ones, list(huge, 1, 1, 1), huge},
		{list(1, 1, 1, huge), ones, huge + 4}, // 2^53 + 3 falls on the even one of its neighbours
		{list(1, 1, huge, 1), ones, huge + 4},
		{list(1, huge, 1, 1), ones, huge},
		{list(huge, 1, -huge, 1), ones, 1},
		{list(1, huge, 1, -huge), ones, 0},
		{list(huge, -huge, 1, 1), ones, 2},
		{list(huge, 1, 1, 1), list(1, 2, 1, 1), huge + 4},
		{list(huge, 1, 1, 1), list(1, 1, 1, 2), huge + 2},
	} {
		got, e := Mul(tens(ints(1, 4), c.row...), tens(ints(4, 1), c.column...))
		check(t, fmt.Sprint("Mul ", c.row, c.column), got, e, tens(ints(1, 1), c.want))
	}
}

// TestMulRoundsEachProduct: where a product and a sum were one step, what the product lost would be left.
func TestMulRoundsEachProduct(t *testing.T) {
	x := 1 + math.Ldexp(1, -30)
	square := 1 + math.Ldexp(1, -29) // x times x, rounded
	for _, c := range []struct {
		row, column []float64
		want        float64
	}{
		{list(x, -1), list(x, square), 0},
		{list(-1, x), list(square, x), 0},
		{list(-square, x), list(1, x), 0},
		{list(x, x), list(x, -x), 0},
		{list(0.1, -1), list(3, 0.30000000000000004), 0},
		{list(-1, 0.1), list(0.30000000000000004, 3), 0},
	} {
		got, e := Mul(tens(ints(1, 2), c.row...), tens(ints(2, 1), c.column...))
		check(t, fmt.Sprint("Mul ", c.row, c.column), got, e, tens(ints(1, 1), c.want))
	}
}

// rounded answers x as a number whose sums and products are rounded to 53 bits, whatever steps the machine has.
func rounded(x float64) *big.Float { return big.NewFloat(x) }

// mulBy is Mul's sentence, with what is done with a row and a column.
func mulBy(a, b api.Tensor, add func(x, y []float64) float64) api.Tensor {
	n, columns := a.Shape[1], b.Shape[1]
	m := tens(ints(a.Shape[0], columns))
	for i := range a.Shape[0] * columns {
		r, c := i/columns, i%columns
		var column []float64
		for k := range n {
			column = append(column, b.Data[k*columns+c])
		}
		m.Data = append(m.Data, add(a.Data[r*n:(r+1)*n], column))
	}
	return m
}

func inTurn(x, y []float64) float64 {
	sum := rounded(0)
	for i := range x {
		product := rounded(0).Mul(rounded(x[i]), rounded(y[i]))
		sum.Add(sum, product)
	}
	f, _ := sum.Float64()
	return f
}

func inOneStep(x, y []float64) float64 {
	sum := 0.0
	for i := range x {
		sum = math.FMA(x[i], y[i], sum)
	}
	return sum
}

func fromTheLast(x, y []float64) float64 {
	x, y = slices.Clone(x), slices.Clone(y)
	slices.Reverse(x)
	slices.Reverse(y)
	return inTurn(x, y)
}

func byHalves(x, y []float64) float64 {
	l := make([]float64, len(x))
	for i := range l {
		l[i] = x[i] * y[i]
	}
	return halved(l)
}

// TestMulOfManyShapes: each small matrix by each that fits it; sums in other ways must come out otherwise at some of them.
func TestMulOfManyShapes(t *testing.T) {
	others := []func(x, y []float64) float64{inOneStep, fromTheLast, byHalves}
	told := make([]int, len(others))
	for n, s := range sides(7) {
		for columns := 1; columns <= 7; columns++ {
			a, b := mixed(uint64(n), s...), mixed(uint64(n+1000*columns), s[1], columns)
			want := mulBy(a, b, inTurn)
			got, e := Mul(a, b)
			check(t, fmt.Sprint("Mul ", s, columns), got, e, want)
			for i, other := range others {
				if !same(want, mulBy(a, b, other)) {
					told[i]++
				}
			}
		}
	}
	if slices.Min(told) < 100 {
		t.Errorf("so many matrices tell other ways apart: %v", told)
	}
}

func TestMulAtTheLimit(t *testing.T) {
	for _, s := range [][3]int{ // a's rows, what they have in common, b's columns
		{64, 1, 64},
		{64, 64, 64},
		{63, 65, 63},
		{4096, 1, 1},
		{1, 1, 4096},
		{1, 4096, 1},
		{2, 2, 2048},
		{2048, 2, 2},
		{4, 1024, 4},
		{17, 16, 240},
		{4095, 1, 1},
	} {
		a, b := mixed(3, s[0], s[1]), mixed(4, s[1], s[2])
		got, e := Mul(a, b)
		if want := mulBy(a, b, inTurn); e != api.OK || !same(got, want) {
			t.Errorf("Mul %v has %v, %d numbers, %v", s, got.Shape, len(got.Data), e)
		}
	}
	for _, s := range [][3]int{
		{17, 1, 241}, // one past
		{241, 1, 17},
		{65, 1, 64},
		{64, 63, 65},
		{4096, 1, 2},
		{2, 1, 4096},
		{4096, 1, 4096},
		{1366, 2, 3},
	} {
		got, e := Mul(counted(s[0], s[1]), counted(s[1], s[2]))
		refused(t, fmt.Sprint("Mul ", s), got, e, api.ErrSize)
	}
}

// TestMulRefuses: matrices that do not fit, what is no matrix and what is no tensor, on either side, on both.
func TestMulRefuses(t *testing.T) {
	good := []api.Tensor{counted(1, 1), counted(2, 2), counted(1, 4), counted(4, 1), counted(64, 64), counted(1, 4096), counted(4096, 1)}
	bad := append(none(), flat()...)
	for _, x := range bad {
		for _, y := range append(good, bad...) {
			got, e := Mul(x, y)
			refused(t, fmt.Sprint("Mul ", x.Shape, len(x.Data), y.Shape), got, e, api.ErrShape)
			got, e = Mul(y, x)
			refused(t, fmt.Sprint("Mul ", y.Shape, x.Shape, len(x.Data)), got, e, api.ErrShape)
		}
	}
	for _, c := range [][2][]int{
		{ints(2, 3), ints(2, 3)},
		{ints(2, 3), ints(2, 2)},
		{ints(3, 2), ints(3, 2)},
		{ints(2, 3), ints(1, 3)}, // no broadcast
		{ints(2, 1), ints(3, 2)},
		{ints(2, 3), ints(4, 2)},
		{ints(1, 1), ints(2, 1)},
		{ints(1, 2), ints(1, 1)},
		{ints(4, 4), ints(2, 8)},
		// what would come out is too great, too: the shape is told first
		{ints(65, 2), ints(3, 64)},
		{ints(4096, 1), ints(2, 2048)},
		{ints(64, 64), ints(63, 65)},
	} {
		got, e := Mul(counted(c[0]...), counted(c[1]...))
		refused(t, fmt.Sprint("Mul ", c), got, e, api.ErrShape)
	}
}
