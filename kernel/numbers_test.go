package kernel

import (
	"fmt"
	"math"
	"testing"

	"backstitch/api"
)

// plain is the operators of two in the language's own words.
var plain = map[int]func(x, y float64) float64{
	api.Add: func(x, y float64) float64 { return x + y },
	api.Sub: func(x, y float64) float64 { return x - y },
	api.Mul: func(x, y float64) float64 { return x * y },
	api.Div: func(x, y float64) float64 { return x / y },
}

func TestTwo(t *testing.T) {
	for _, c := range []struct {
		op         int
		a, b, want api.Tensor
	}{
		{api.Add, tens(ints(2), 1, 2), tens(ints(1), 3), tens(ints(2), 4, 5)},
		{api.Sub, tens(ints(2), 1, 2), tens(ints(1), 3), tens(ints(2), -2, -1)},
		{api.Mul, tens(ints(2), 1, 2), tens(ints(1), 3), tens(ints(2), 3, 6)},
		{api.Div, tens(ints(2), 1, 2), tens(ints(1), 4), tens(ints(2), 0.25, 0.5)},
		// the order of both is kept, also where the first is the one that is broadcast
		{api.Sub, tens(ints(1), 3), tens(ints(2), 1, 2), tens(ints(2), 2, 1)},
		{api.Div, tens(ints(1), 3), tens(ints(2), 1, 2), tens(ints(2), 3, 1.5)},
		// no dimension
		{api.Add, tens(nil, 1), tens(nil, 2), tens(nil, 3)},
		{api.Sub, tens(ints(), 1), tens(nil, 2), tens(nil, -1)},
		{api.Div, tens(nil, 1), tens(ints(2), 2, 4), tens(ints(2), 0.5, 0.25)},
		{api.Div, tens(ints(2), 2, 4), tens(nil, 2), tens(ints(2), 1, 2)},
		{api.Mul, tens(nil, 5), tens(ints(1, 1, 1, 1), 7), tens(ints(1, 1, 1, 1), 35)},
		// both are broadcast
		{api.Sub, tens(ints(2, 1), 10, 20), tens(ints(3), 1, 2, 3), tens(ints(2, 3), 9, 8, 7, 19, 18, 17)},
		{api.Sub, tens(ints(3), 1, 2, 3), tens(ints(2, 1), 10, 20), tens(ints(2, 3), -9, -8, -7, -19, -18, -17)},
		{api.Mul, tens(ints(2, 1, 2), 1, 2, 3, 4), tens(ints(2, 1), 1, 10), tens(ints(2, 2, 2), 1, 2, 10, 20, 3, 4, 30, 40)},
		{api.Add, tens(ints(1, 2), 1, 2), tens(ints(2, 1), 10, 20), tens(ints(2, 2), 11, 12, 21, 22)},
	} {
		got, e := Two(c.op, c.a, c.b)
		check(t, fmt.Sprint("Two ", c.op, c.a, c.b), got, e, c.want, api.OK)
	}
}

// TestTwoNumbers: noughts with a sign, NaNs, infinities, and what is rounded.
func TestTwoNumbers(t *testing.T) {
	for _, c := range []struct {
		op         int
		x, y, want float64
	}{
		{api.Add, 0, less, 0},
		{api.Add, less, 0, 0},
		{api.Add, less, less, less},
		{api.Add, 1, -1, 0},
		{api.Add, 0.1, 0.2, 0.30000000000000004},
		{api.Add, 1 << 53, 1, 1 << 53},
		{api.Add, great, great, inf},
		{api.Add, inf, below, nan},
		{api.Add, inf, 1, inf},
		{api.Add, nan, inf, nan},
		{api.Add, 1, other, nan},
		{api.Sub, 0, 0, 0},
		{api.Sub, less, 0, less},
		{api.Sub, 0, less, 0},
		{api.Sub, less, less, 0},
		{api.Sub, inf, inf, nan},
		{api.Sub, below, inf, below},
		{api.Sub, 1, nan, nan},
		{api.Mul, 0, -1, less},
		{api.Mul, less, -1, 0},
		{api.Mul, less, less, 0},
		{api.Mul, 0, inf, nan},
		{api.Mul, below, less, nan},
		{api.Mul, below, -2, inf},
		{api.Mul, great, -2, below},
		{api.Mul, -tiny, 0.5, less},
		{api.Mul, 0.1, 0.1, 0.010000000000000002},
		{api.Mul, nan, 0, nan},
		{api.Div, 1, 0, inf},
		{api.Div, 1, less, below},
		{api.Div, -1, 0, below},
		{api.Div, 0, 0, nan},
		{api.Div, less, 0, nan},
		{api.Div, less, 5, less},
		{api.Div, 0, -5, less},
		{api.Div, 1, below, less},
		{api.Div, inf, inf, nan},
		{api.Div, inf, 0, inf},
		{api.Div, great, 0.5, inf},
		{api.Div, tiny, 2, 0},
		{api.Div, 1, 3, 0.3333333333333333},
		{api.Div, 5, 3, 1.6666666666666667}, // 5 times the rounded 1/3 is 1.6666666666666665
		{api.Div, 0, nan, nan},
	} {
		got, e := Two(c.op, tens(ints(2), 7, c.x), tens(ints(2), 7, c.y))
		if e != api.OK || len(got.Data) != 2 || !alike(got.Data[1], c.want) {
			t.Errorf("Two %d of %v and %v = %v, %v, want %v", c.op, c.x, c.y, got, e, c.want)
		}
	}
}

func TestTwoOfAllStrays(t *testing.T) {
	n := len(strays)
	for op, do := range plain {
		got, e := Two(op, tens(ints(n, 1), strays...), tens(ints(n), strays...))
		if e != api.OK || len(got.Data) != n*n {
			t.Fatalf("Two %d = %v, %v", op, got, e)
		}
		for i, x := range got.Data {
			if want := do(strays[i/n], strays[i%n]); !alike(x, want) {
				t.Errorf("Two %d of %v and %v = %v, want %v", op, strays[i/n], strays[i%n], x, want)
			}
		}
	}
}

// TestTwoOfManyShapes: each two shapes of small numbers, broadcast on either side or on both, or not alike.
func TestTwoOfManyShapes(t *testing.T) {
	all := shapes(1, 2, 3)
	for i, r := range all {
		for _, s := range all {
			op := api.Add + i%4
			a, b := mixed(1, r...), mixed(2, s...)
			got, e := Two(op, a, b)
			to, ok := joined(r, s)
			if !ok {
				refused(t, fmt.Sprint("Two of ", r, s), got, e, api.ErrShape)
				continue
			}
			want := tens(to, make([]float64, many(to))...)
			for i := range want.Data {
				want.Data[i] = plain[op](a.Data[under(r, to, i)], b.Data[under(s, to, i)])
			}
			check(t, fmt.Sprint("Two ", op, r, s), got, e, want, api.OK)
		}
	}
}

func TestTwoAtTheLimit(t *testing.T) {
	for _, c := range []struct {
		a, b, to []int
		e        api.Errno
	}{
		{ints(4096), ints(4096), ints(4096), api.OK},
		{ints(4096), nil, ints(4096), api.OK},
		{ints(4096), ints(1, 1, 1, 1), ints(1, 1, 1, 4096), api.OK},
		{ints(64, 1), ints(64), ints(64, 64), api.OK},
		{ints(8, 1, 8, 1), ints(8, 1, 8), ints(8, 8, 8, 8), api.OK},
		{ints(4095, 1), ints(1), ints(4095, 1), api.OK},
		{ints(64, 1), ints(65), nil, api.ErrSize},
		{ints(4096), ints(2, 1), nil, api.ErrSize},
		{ints(17, 1), ints(241), nil, api.ErrSize},
		{ints(4096, 1), ints(4096), nil, api.ErrSize},
	} {
		for _, op := range []int{api.Add, api.Sub, api.Mul, api.Div} {
			a, b := counted(c.a...), counted(c.b...)
			got, e := Two(op, a, b)
			back, backE := Two(op, b, a)
			if c.e != api.OK {
				refused(t, fmt.Sprint("Two of ", c.a, c.b), got, e, c.e)
				refused(t, fmt.Sprint("Two of ", c.b, c.a), back, backE, c.e)
				continue
			}
			if e != api.OK || backE != api.OK || len(got.Data) != many(c.to) || len(back.Data) != many(c.to) {
				t.Fatalf("Two of %v and %v: %v, %v", c.a, c.b, e, backE)
			}
			for i := range got.Data {
				x, y := a.Data[under(c.a, c.to, i)], b.Data[under(c.b, c.to, i)]
				if !alike(got.Data[i], plain[op](x, y)) || !alike(back.Data[i], plain[op](y, x)) {
					t.Fatalf("Two %d of %v and %v at %d: %v, %v", op, c.a, c.b, i, got.Data[i], back.Data[i])
				}
			}
		}
	}
}

func TestTwoRefuses(t *testing.T) {
	a := counted(2)
	for _, op := range []int{math.MinInt, -1, 0, api.Leaf, api.Const, api.Param, api.Neg, api.Exp, api.Log, api.Relu, api.Matmul, api.Sum, api.Broadcast, api.Reshape, api.Call, api.Call + 1, math.MaxInt} {
		got, e := Two(op, a, a)
		refused(t, fmt.Sprint("Two ", op), got, e, api.ErrOp)
		// with other errors at once the operator's comes first
		got, e = Two(op, tens(ints(0)), counted(4097))
		refused(t, fmt.Sprint("Two ", op, " of none"), got, e, api.ErrOp)
		got, e = Two(op, counted(64, 1), counted(65))
		refused(t, fmt.Sprint("Two ", op, " of what is too great"), got, e, api.ErrOp)
	}
	for op := range plain {
		for _, x := range none() {
			for _, y := range []api.Tensor{counted(2), counted(3), counted(64, 1), tens(nil, 1), x} {
				got, e := Two(op, x, y)
				refused(t, fmt.Sprint("Two ", op, x.Shape, y.Shape), got, e, api.ErrShape)
				got, e = Two(op, y, x)
				refused(t, fmt.Sprint("Two ", op, y.Shape, x.Shape), got, e, api.ErrShape)
			}
		}
		for _, c := range [][2]api.Tensor{
			{counted(2), counted(3)},
			{counted(2, 3), counted(2)},
			{counted(2, 2, 2), counted(3, 2, 2)},
			// unlike, and too great
			{counted(2, 64, 1), counted(3, 1, 65)},
			// too great, and one that may not be
			{tens(ints(64, 1), make([]float64, 63)...), counted(65)},
		} {
			got, e := Two(op, c[0], c[1])
			refused(t, fmt.Sprint("Two ", op, c[0].Shape, c[1].Shape), got, e, api.ErrShape)
			got, e = Two(op, c[1], c[0])
			refused(t, fmt.Sprint("Two ", op, c[1].Shape, c[0].Shape), got, e, api.ErrShape)
		}
	}
}

func TestOne(t *testing.T) {
	for _, c := range []struct{ x, neg, relu, exp, log float64 }{
		{0, less, 0, 1, below},
		{less, 0, 0, 1, below},
		{1, -1, 1, math.Exp(1), 0},
		{-1, 1, 0, math.Exp(-1), nan},
		{tiny, -tiny, tiny, 1, math.Log(tiny)},
		{-tiny, tiny, 0, 1, nan},
		{great, -great, great, inf, math.Log(great)},
		{-great, great, 0, 0, nan},
		{inf, below, inf, inf, inf},
		{below, inf, 0, 0, nan},
		{nan, nan, nan, nan, nan},
		{other, nan, nan, nan, nan},
		{710, -710, 710, inf, math.Log(710)},
		{-746, 746, 0, 0, nan},
		{2.5, -2.5, 2.5, math.Exp(2.5), math.Log(2.5)},
		{-0.1, 0.1, 0, math.Exp(-0.1), nan},
	} {
		for op, want := range map[int]float64{api.Neg: c.neg, api.Relu: c.relu, api.Exp: c.exp, api.Log: c.log} {
			got, e := One(op, tens(nil, c.x))
			check(t, fmt.Sprint("One ", op, c.x), got, e, tens(nil, want), api.OK)
			got, e = One(op, tens(ints(2, 1), 1, c.x))
			if e != api.OK || len(got.Data) != 2 || !alike(got.Data[1], want) {
				t.Errorf("One %d of 1 and %v = %v, %v, want %v", op, c.x, got, e, want)
			}
		}
	}
}

// TestOneIsTheLibrarys: bit for bit, for numbers of many sizes, in whatever shape.
func TestOneIsTheLibrarys(t *testing.T) {
	for _, s := range [][]int{nil, ints(1), ints(4096), ints(8, 8, 8, 8), ints(3, 1, 5), ints(63, 65), ints(1, 1, 1, 1)} {
		a := mixed(5, s...)
		for i, x := range a.Data {
			a.Data[i] = math.Remainder(x, 300)
		}
		exps, e := One(api.Exp, a)
		logs, f := One(api.Log, a)
		want, wantLogs := tens(s), tens(s)
		for _, x := range a.Data {
			want.Data = append(want.Data, math.Exp(x))
			wantLogs.Data = append(wantLogs.Data, math.Log(x))
		}
		if e != api.OK || f != api.OK || !same(exps, want) || !same(logs, wantLogs) {
			t.Errorf("of shape %v Exp or Log is not the library's", s)
		}
	}
}

func TestOneRefuses(t *testing.T) {
	a := counted(2)
	for _, op := range []int{math.MinInt, -1, 0, api.Leaf, api.Const, api.Param, api.Add, api.Sub, api.Mul, api.Div, api.Matmul, api.Sum, api.Broadcast, api.Reshape, api.Call, api.Call + 1, math.MaxInt} {
		got, e := One(op, a)
		refused(t, fmt.Sprint("One ", op), got, e, api.ErrOp)
		for _, x := range none() {
			got, e := One(op, x)
			refused(t, fmt.Sprint("One ", op, x.Shape), got, e, api.ErrOp)
		}
	}
	for _, op := range []int{api.Neg, api.Exp, api.Log, api.Relu} {
		for _, x := range none() {
			got, e := One(op, x)
			refused(t, fmt.Sprint("One ", op, x.Shape), got, e, api.ErrShape)
		}
	}
}
