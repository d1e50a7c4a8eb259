package matrix

import (
	"fmt"
	"testing"

	"backstitch/api"
)

func TestTurn(t *testing.T) {
	for _, c := range []struct{ a, want api.Tensor }{
		{tens(ints(2, 3), 1, 2, 3, 4, 5, 6), tens(ints(3, 2), 1, 4, 2, 5, 3, 6)},
		{tens(ints(3, 2), 1, 2, 3, 4, 5, 6), tens(ints(2, 3), 1, 3, 5, 2, 4, 6)},
		{tens(ints(2, 2), 1, 2, 3, 4), tens(ints(2, 2), 1, 3, 2, 4)},
		{tens(ints(1, 3), 1, 2, 3), tens(ints(3, 1), 1, 2, 3)},
		{tens(ints(3, 1), 1, 2, 3), tens(ints(1, 3), 1, 2, 3)},
		{tens(ints(1, 1), less), tens(ints(1, 1), less)},
		{tens(ints(2, 3), less, 0, nan, inf, below, tiny), tens(ints(3, 2), less, inf, 0, below, nan, tiny)},
	} {
		got, e := Turn(c.a)
		check(t, fmt.Sprint("Turn ", c.a), got, e, c.want)
	}
}

// turnedShapes is those of small matrices and of some at the limit.
func turnedShapes() [][]int {
	return append(sides(9), ints(64, 64), ints(63, 65), ints(65, 63), ints(1, 4096), ints(4096, 1), ints(2, 2048), ints(1024, 4), ints(5, 819))
}

func TestTurnOfManyShapes(t *testing.T) {
	for _, s := range turnedShapes() {
		a := counted(s...)
		got, e := Turn(a)
		want := filled(func(i int) float64 { return a.Data[i%s[0]*s[1]+i/s[0]] }, s[1], s[0])
		if e != api.OK || !same(got, want) {
			t.Errorf("Turn %v has %v, %d numbers, %v", s, got.Shape, len(got.Data), e)
		}
		if back, e := Turn(got); e != api.OK || !same(back, a) {
			t.Errorf("Turn %v twice has %v, %d numbers, %v", s, back.Shape, len(back.Data), e)
		}
	}
}

// TestTurnOfMul: b's columns by a's rows have the same products in the same order.
func TestTurnOfMul(t *testing.T) {
	for n, s := range sides(6) {
		a, b := mixed(uint64(n), s...), mixed(uint64(n+50), s[1], 5)
		turnedA, _ := Turn(a)
		turnedB, _ := Turn(b)
		product, _ := Mul(a, b)
		want, _ := Turn(product)
		got, e := Mul(turnedB, turnedA)
		check(t, fmt.Sprint("Mul of turned ", s), got, e, want)
	}
}

func TestTurnRefuses(t *testing.T) {
	for _, x := range append(none(), flat()...) {
		got, e := Turn(x)
		refused(t, fmt.Sprint("Turn ", x.Shape, len(x.Data)), got, e, api.ErrShape)
	}
}
