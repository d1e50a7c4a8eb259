package kernel

import (
	"fmt"
	"math"
	"slices"
	"testing"

	"backstitch/api"
)

// wrong is shapes that may not be, each with shape.Size's error.
func wrong() []struct {
	s []int
	e api.Errno
} {
	return []struct {
		s []int
		e api.Errno
	}{
		{ints(0), api.ErrShape},
		{ints(-1), api.ErrShape},
		{ints(-2, -3), api.ErrShape},
		{ints(6, 0), api.ErrShape},
		{ints(math.MinInt), api.ErrShape},
		{ints(1, 1, 1, 1, 6), api.ErrShape},
		{ints(4097, 0), api.ErrShape},
		{ints(4097, 1, 1, 1, 1), api.ErrShape},
		{ints(4097), api.ErrSize},
		{ints(17, 241), api.ErrSize},
		{ints(1<<32, 1<<32), api.ErrSize},
		{ints(math.MaxInt, math.MaxInt), api.ErrSize},
	}
}

func TestSpread(t *testing.T) {
	column, row := tens(ints(2, 1), 1, 2), tens(ints(3), 1, less, nan)
	for _, c := range []struct {
		a    api.Tensor
		s    []int
		want []float64
	}{
		{tens(nil, 7), nil, list(7)},
		{tens(nil, 7), ints(), list(7)},
		{tens(nil, 7), ints(1), list(7)},
		{tens(nil, less), ints(2, 2), list(less, less, less, less)},
		{tens(ints(1), 7), ints(3), list(7, 7, 7)},
		{column, ints(2, 1), list(1, 2)},
		{column, ints(2, 3), list(1, 1, 1, 2, 2, 2)},
		{column, ints(2, 2, 1), list(1, 2, 1, 2)},
		{column, ints(3, 1, 2, 1), list(1, 2, 1, 2, 1, 2)},
		{column, ints(2, 2, 2), list(1, 1, 2, 2, 1, 1, 2, 2)},
		{row, ints(3), list(1, less, nan)},
		{row, ints(2, 3), list(1, less, nan, 1, less, nan)},
		{tens(ints(2, 1, 2), 1, inf, below, 4), ints(2, 2, 2), list(1, inf, 1, inf, below, 4, below, 4)},
		{tens(ints(1, 2, 1), 1, 2), ints(2, 2, 2), list(1, 1, 2, 2, 1, 1, 2, 2)},
	} {
		got, e := Spread(c.a, c.s)
		check(t, fmt.Sprint("Spread ", c.a, c.s), got, e, tens(c.s, c.want...), api.OK)
	}
}

// TestSpreadOfManyShapes: each shape of small numbers to each other one.
func TestSpreadOfManyShapes(t *testing.T) {
	all := shapes(1, 2, 3)
	for _, r := range all {
		a := mixed(3, r...)
		for _, s := range all {
			got, e := Spread(a, s)
			if to, ok := joined(r, s); !ok || !slices.Equal(to, s) {
				refused(t, fmt.Sprint("Spread ", r, s), got, e, api.ErrShape)
				continue
			}
			want := tens(s, make([]float64, many(s))...)
			for i := range want.Data {
				want.Data[i] = a.Data[under(r, s, i)]
			}
			check(t, fmt.Sprint("Spread ", r, s), got, e, want, api.OK)
		}
	}
}

// bounds is shapes at the limit: the first is Into the second.
func bounds() [][2][]int {
	return [][2][]int{
		{nil, ints(4096)},
		{ints(1), ints(8, 8, 8, 8)},
		{ints(4096), ints(4096)},
		{ints(4096), ints(1, 1, 1, 4096)},
		{ints(64, 1), ints(64, 64)},
		{ints(64), ints(64, 64)},
		{ints(8, 1, 8), ints(8, 8, 8, 8)},
		{ints(8, 1, 8, 1), ints(8, 8, 8, 8)},
		{ints(65), ints(63, 65)},
	}
}

func TestSpreadAtTheLimit(t *testing.T) {
	for _, c := range bounds() {
		r, s := c[0], c[1]
		a := counted(r...)
		got, e := Spread(a, s)
		if e != api.OK || !slices.Equal(got.Shape, s) || len(got.Data) != many(s) {
			t.Fatalf("Spread %v to %v has %v, %d numbers, %v", r, s, got.Shape, len(got.Data), e)
		}
		for i, x := range got.Data {
			if !alike(x, a.Data[under(r, s, i)]) {
				t.Fatalf("Spread %v to %v has %v at %d", r, s, x, i)
			}
		}
	}
	// one past it is not Into, which is told as a shape's error, not a size's
	for _, s := range [][]int{ints(4097), ints(17, 241), ints(2, 4096), ints(1, 1, 1, 1, 1), ints(8, 8, 8, 9)} {
		for _, a := range []api.Tensor{tens(nil, 1), counted(1), counted(1, 1), counted(4096)} {
			got, e := Spread(a, s)
			refused(t, fmt.Sprint("Spread ", a.Shape, s), got, e, api.ErrShape)
		}
	}
}

func TestSpreadRefuses(t *testing.T) {
	for _, x := range none() {
		for _, s := range [][]int{x.Shape, nil, ints(1), ints(2), ints(2, 2), ints(0), ints(4097)} {
			got, e := Spread(x, s)
			refused(t, fmt.Sprint("Spread ", x.Shape, len(x.Data), s), got, e, api.ErrShape)
		}
	}
	for _, c := range wrong() {
		for _, a := range []api.Tensor{tens(nil, 1), counted(1), counted(6)} {
			got, e := Spread(a, c.s)
			refused(t, fmt.Sprint("Spread ", a.Shape, c.s), got, e, api.ErrShape)
		}
	}
	for _, c := range [][2][]int{
		{ints(2), ints(3)},
		{ints(2), nil},
		{ints(1), nil},
		{ints(1, 1), ints(1)},
		{ints(2), ints(2, 1)},
		{ints(2, 1), ints(3, 2)},
		{ints(2, 3), ints(3)},
		{ints(2, 3), ints(3, 2)},
		{ints(2, 3), ints(6)},
		{ints(3), ints(1)},
	} {
		got, e := Spread(counted(c[0]...), c[1])
		refused(t, fmt.Sprint("Spread ", c[0], c[1]), got, e, api.ErrShape)
	}
}

func TestGather(t *testing.T) {
	whole := tens(ints(2, 3), 1, 2, 3, 4, 5, 6)
	cube := tens(ints(2, 2, 2), 1, 2, 4, 8, 16, 32, 64, 128)
	for _, c := range []struct {
		a    api.Tensor
		s    []int
		want []float64
	}{
		{tens(nil, 7), nil, list(7)},
		{tens(nil, less), ints(), list(less)},
		{tens(ints(1), 7), nil, list(7)},
		{tens(ints(1, 1, 1), 7), ints(1, 1), list(7)},
		{whole, ints(2, 3), list(1, 2, 3, 4, 5, 6)},
		{whole, ints(3), list(5, 7, 9)},
		{whole, ints(1, 3), list(5, 7, 9)},
		{whole, ints(2, 1), list(6, 15)},
		{whole, ints(1), list(21)},
		{whole, ints(1, 1), list(21)},
		{whole, nil, list(21)},
		{cube, ints(2, 1, 1), list(15, 240)},
		{cube, ints(2, 1), list(1+2+16+32, 4+8+64+128)},
		{cube, ints(2), list(1+4+16+64, 2+8+32+128)},
		{cube, ints(2, 1, 2), list(5, 10, 80, 160)},
		{cube, ints(1, 2, 2), list(17, 34, 68, 136)},
		{cube, ints(2, 2), list(17, 34, 68, 136)},
		{cube, nil, list(255)},
		// noughts with a sign, NaNs, infinities: nothing is added to what stands alone
		{tens(ints(4), less, 0, nan, below), ints(4), list(less, 0, nan, below)},
		{tens(ints(2, 2), less, less, less, 0), ints(2, 1), list(less, 0)},
		{tens(ints(2, 3), less, inf, nan, less, below, 1), ints(3), list(less, nan, nan)},
		{tens(ints(2), great, great), nil, list(inf)},
		{tens(ints(4), great, -great, great, -great), nil, list(0)},
		{tens(ints(4), great, great, -great, -great), nil, list(nan)},
	} {
		got, e := Gather(c.a, c.s)
		check(t, fmt.Sprint("Gather ", c.a, c.s), got, e, tens(c.s, c.want...), api.OK)
	}
}

// TestGatherFoldsByHalves: 2^53 is where whole numbers end, so that sums in a row would lose each 1.
func TestGatherFoldsByHalves(t *testing.T) {
	const big = 1 << 53
	for _, c := range []struct {
		a    api.Tensor
		s    []int
		want []float64
	}{
		{tens(ints(4), big, 1, 1, 1), nil, list(big + 2)},
		{tens(ints(3), 1, 1, big), nil, list(big + 2)},
		{tens(ints(3), big, 1, 1), nil, list(big)}, // the greater half is the first one
		{tens(ints(5), big, 1, 1, 1, 1), ints(1), list(big + 2)},
		{tens(ints(2, 2), big, 1, 1, 1), ints(1, 1), list(big + 2)},
		// of two columns each has its numbers in the order of the rows
		{tens(ints(3, 2), 1, big, 1, 1, big, 1), ints(2), list(big+2, big)},
		{tens(ints(3, 2), 1, big, 1, 1, big, 1), ints(1, 2), list(big+2, big)},
		// what is gathered ahead and behind at once goes by Index: the last place runs first
		{tens(ints(2, 2, 2), big, -big, 0, 0, 1, 1, 0, 0), ints(2, 1), list(2, 0)},
		{tens(ints(2, 2, 2), big, 1, 0, 0, -big, 1, 0, 0), ints(2, 1), list(1, 0)},
		{tens(ints(2, 2, 2), 0, 0, big, -big, 0, 0, 1, 1), ints(1, 2, 1), list(0, 2)},
	} {
		got, e := Gather(c.a, c.s)
		check(t, fmt.Sprint("Gather ", c.a, c.s), got, e, tens(c.s, c.want...), api.OK)
	}
}

// gatheredBy is Gather's sentence, with what it does with the numbers that were taken from one.
func gatheredBy(a api.Tensor, s []int, fold func(l []float64) float64) api.Tensor {
	rows := make([][]float64, many(s))
	for i, x := range a.Data {
		j := under(s, a.Shape, i)
		rows[j] = append(rows[j], x)
	}
	g := tens(s)
	for _, l := range rows {
		g.Data = append(g.Data, fold(l))
	}
	return g
}

func fromTheLast(l []float64) float64 {
	l = slices.Clone(l)
	slices.Reverse(l)
	return halved(l)
}

func inTurn(l []float64) float64 {
	sum := l[0]
	for _, x := range l[1:] {
		sum += x
	}
	return sum
}

// TestGatherOfManyShapes: each shape of small numbers to each other one; other orders must come out otherwise at some of them.
func TestGatherOfManyShapes(t *testing.T) {
	all := shapes(1, 2, 3, 5)
	otherOrder, otherSum := 0, 0
	for n, r := range all {
		a := mixed(uint64(n), r...)
		for _, s := range all {
			got, e := Gather(a, s)
			if to, ok := joined(s, r); !ok || !slices.Equal(to, r) {
				refused(t, fmt.Sprint("Gather ", r, s), got, e, api.ErrShape)
				continue
			}
			want := gatheredBy(a, s, halved)
			check(t, fmt.Sprint("Gather ", r, s), got, e, want, api.OK)
			if !same(want, gatheredBy(a, s, fromTheLast)) {
				otherOrder++
			}
			if !same(want, gatheredBy(a, s, inTurn)) {
				otherSum++
			}
		}
	}
	if otherOrder < 100 || otherSum < 100 {
		t.Errorf("only %d lists tell the order, %d the halves", otherOrder, otherSum)
	}
}

func TestGatherAtTheLimit(t *testing.T) {
	for _, c := range bounds() {
		r, s := c[1], c[0]
		a := mixed(9, r...)
		got, e := Gather(a, s)
		if want := gatheredBy(a, s, halved); e != api.OK || !same(got, want) {
			t.Errorf("Gather %v to %v has %v, %d numbers, %v", r, s, got.Shape, len(got.Data), e)
		}
	}
}

func TestGatherRefuses(t *testing.T) {
	for _, x := range none() {
		for _, s := range [][]int{x.Shape, nil, ints(1), ints(2), ints(0), ints(4097)} {
			got, e := Gather(x, s)
			refused(t, fmt.Sprint("Gather ", x.Shape, len(x.Data), s), got, e, api.ErrShape)
		}
	}
	for _, c := range wrong() {
		for _, a := range []api.Tensor{tens(nil, 1), counted(1), counted(6)} {
			got, e := Gather(a, c.s)
			refused(t, fmt.Sprint("Gather ", a.Shape, c.s), got, e, api.ErrShape)
		}
	}
	for _, c := range [][2][]int{
		{ints(2), ints(3)},
		{nil, ints(1)},
		{nil, ints(2)},
		{ints(1), ints(2)},
		{ints(1), ints(1, 1)},
		{ints(2, 3), ints(2)},
		{ints(2, 3), ints(1, 2, 3)},
		{ints(2, 3), ints(3, 1)},
		{ints(2, 3), ints(3, 2)},
		{ints(2, 3), ints(6)},
		{ints(4), ints(2)},
		{ints(64, 1), ints(65)}, // their Spread is too great, which is not told
	} {
		got, e := Gather(counted(c[0]...), c[1])
		refused(t, fmt.Sprint("Gather ", c[0], c[1]), got, e, api.ErrShape)
	}
}

// TestGatherUndoesSpread: of whole numbers each comes back as often as it was taken.
func TestGatherUndoesSpread(t *testing.T) {
	for _, c := range append(bounds(), [2][]int{ints(2, 1), ints(2, 3)}, [2][]int{ints(3), ints(5, 1, 3)}, [2][]int{nil, nil}) {
		a := counted(c[0]...)
		for i := range a.Data {
			a.Data[i] = float64(i % 7)
		}
		wide, _ := Spread(a, c[1])
		got, e := Gather(wide, c[0])
		want := tens(c[0])
		for _, x := range a.Data {
			want.Data = append(want.Data, x*float64(many(c[1])/many(c[0])))
		}
		if e != api.OK || !same(got, want) {
			t.Errorf("Gather of Spread of %v to %v: %v, %v", c[0], c[1], got, e)
		}
	}
}

func TestReshape(t *testing.T) {
	data := list(1, less, nan, inf, below, tiny)
	for _, r := range [][]int{ints(6), ints(2, 3), ints(3, 2), ints(1, 6), ints(6, 1, 1, 1), ints(1, 3, 1, 2)} {
		for _, s := range [][]int{ints(6), ints(2, 3), ints(3, 2), ints(1, 6), ints(6, 1, 1, 1), ints(1, 3, 1, 2)} {
			got, e := Reshape(tens(r, data...), s)
			check(t, fmt.Sprint("Reshape ", r, s), got, e, tens(s, data...), api.OK)
		}
	}
	for _, c := range [][2][]int{
		{nil, nil},
		{nil, ints(1)},
		{nil, ints(1, 1, 1, 1)},
		{ints(1, 1, 1, 1), nil},
		{ints(4096), ints(8, 8, 8, 8)},
		{ints(64, 64), ints(4096)},
		{ints(2, 3, 4), ints(4, 3, 2)},
	} {
		a := mixed(4, c[0]...)
		got, e := Reshape(a, c[1])
		check(t, fmt.Sprint("Reshape ", c), got, e, tens(c[1], a.Data...), api.OK)
	}
}

func TestReshapeRefuses(t *testing.T) {
	for _, x := range none() {
		for _, s := range [][]int{x.Shape, nil, ints(1), ints(2), ints(3), ints(0), ints(4097), ints(64, 64)} {
			got, e := Reshape(x, s)
			refused(t, fmt.Sprint("Reshape ", x.Shape, len(x.Data), s), got, e, api.ErrShape)
		}
	}
	for _, c := range wrong() {
		for _, a := range []api.Tensor{tens(nil, 1), counted(6), counted(4096)} {
			got, e := Reshape(a, c.s)
			refused(t, fmt.Sprint("Reshape ", a.Shape, c.s), got, e, c.e)
		}
	}
	for _, c := range [][2][]int{
		{nil, ints(2)},
		{ints(2), nil},
		{ints(2), ints(1)},
		{ints(1), ints(2)}, // no broadcast
		{ints(6), ints(7)},
		{ints(6), ints(5)},
		{ints(6), ints(2, 2)},
		{ints(4096), ints(4095)},
		{ints(63, 65), ints(64, 64)},
	} {
		got, e := Reshape(counted(c[0]...), c[1])
		refused(t, fmt.Sprint("Reshape ", c[0], c[1]), got, e, api.ErrSize)
	}
}
