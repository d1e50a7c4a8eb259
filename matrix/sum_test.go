package matrix

import (
	"fmt"
	"testing"

	"backstitch/api"
)

func TestSum(t *testing.T) {
	for _, c := range []struct {
		a    api.Tensor
		want float64
	}{
		{tens(nil, 7), 7},
		{tens(ints(), 7), 7},
		{tens(ints(1), 7), 7},
		{tens(ints(1, 1, 1, 1), 7), 7},
		{tens(ints(3), 1, 2, 3), 6},
		{tens(ints(2, 3), 1, 2, 3, 4, 5, 6), 21},
		{tens(ints(3, 1), 1, 2, 3), 6},
		{tens(ints(2, 1, 2), 1, 2, 4, 8), 15},
		{tens(ints(2, 1, 2, 1), 1, 2, 4, 8), 15},
		// one number is not added to 0
		{tens(nil, less), less},
		{tens(ints(1), less), less},
		{tens(ints(1, 1), less), less},
		{tens(ints(2), less, less), less},
		{tens(ints(3), less, less, less), less},
		{tens(ints(2), less, 0), 0},
		{tens(ints(2), 1, -1), 0},
		{tens(ints(1), nan), nan},
		{tens(ints(2, 2), 1, nan, 1, 1), nan},
		{tens(ints(3), inf, 1, -great), inf},
		{tens(ints(3), 1, below, great), below},
		{tens(ints(2), inf, below), nan},
		{tens(ints(2), great, great), inf},
		{tens(ints(2), tiny, tiny), 2 * tiny},
	} {
		got, e := Sum(c.a)
		check(t, fmt.Sprint("Sum ", c.a), got, e, tens(ints(1), c.want))
	}
}

// TestSumFoldsByHalves: of an odd many the first half is the greater one.
func TestSumFoldsByHalves(t *testing.T) {
	for _, c := range []struct {
		a    api.Tensor
		want float64
	}{
		{tens(ints(4), huge, 1, 1, 1), huge + 2},
		{tens(ints(2, 2), huge, 1, 1, 1), huge + 2},
		{tens(ints(5), huge, 1, 1, 1, 1), huge + 2},
		{tens(ints(3), huge, 1, 1), huge},
		{tens(ints(3), 1, 1, huge), huge + 2},
		{tens(ints(1, 3), 1, huge, -huge), 0},
		{tens(ints(4), great, -great, great, -great), 0},
		{tens(ints(2, 2), great, great, -great, -great), nan},
		{tens(ints(2, 2, 1), great, great, -great, 0), inf},
		// all numbers in one row, not row by row or column by column: 2^53 and 1 stand in one half, though in two rows
		{tens(ints(3, 2), 0, huge, 1, 1, 1, 0), huge + 2},
		{tens(ints(2, 3), 0, huge, 1, 1, 1, 0), huge + 2},
		{tens(ints(3, 2), huge, 0, 1, 1, 0, -huge), 1},
	} {
		got, e := Sum(c.a)
		check(t, fmt.Sprint("Sum ", c.a), got, e, tens(ints(1), c.want))
	}
}

// halved is Fold's sentence.
func halved(l []float64) float64 {
	if len(l) == 1 {
		return l[0]
	}
	half := (len(l) + 1) / 2
	return halved(l[:half]) + halved(l[half:])
}

// inARow adds to 0, as Row does.
func inARow(l []float64) float64 {
	sum := 0.0
	for _, x := range l {
		sum += x
	}
	return sum
}

// TestSumOfManyShapes: of each many up to 130, in whatever shape; sums in a row must come out otherwise at some of them.
func TestSumOfManyShapes(t *testing.T) {
	all := [][]int{nil, ints(4096), ints(4095), ints(64, 64), ints(63, 65), ints(8, 8, 8, 8), ints(16, 16, 16), ints(1, 1, 4096, 1), ints(3, 5, 7)}
	for n := 1; n <= 130; n++ {
		all = append(all, ints(n), ints(n, 3))
	}
	told := 0
	for n, s := range all {
		a := mixed(uint64(n), s...)
		want := halved(a.Data)
		got, e := Sum(a)
		if e != api.OK || !same(got, tens(ints(1), want)) {
			t.Errorf("Sum %v = %v, %v, want %v", s, got, e, want)
		}
		if !alike(want, inARow(a.Data)) {
			told++
		}
	}
	if told < 50 {
		t.Errorf("only %d tensors tell the halves", told)
	}
}

func TestSumRefuses(t *testing.T) {
	for _, x := range none() {
		got, e := Sum(x)
		refused(t, fmt.Sprint("Sum ", x.Shape, len(x.Data)), got, e, api.ErrShape)
	}
}
