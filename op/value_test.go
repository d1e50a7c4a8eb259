package op

import (
	"fmt"
	"math"
	"testing"

	"backstitch/api"
	"backstitch/kernel"
	"backstitch/matrix"
)

// huge is where whole numbers end: a 1 that is added to it is rounded away.
const huge = 1 << 53

func TestValueOfConst(t *testing.T) {
	for _, x := range []api.Tensor{
		tens(nil, 5),
		tens(ints(), 5),
		tens(ints(1), 5),
		tens(ints(2), 8, 9),
		tens(ints(2, 3), 1, 2, 3, 4, 5, 6),
		tens(ints(1, 1, 1, 1), less),
		tens(ints(len(strays)), strays...),
		counted(4096),
		counted(8, 8, 8, 8),
	} {
		check(t, fmt.Sprint("Const ", x.Shape), with(x), nil, x)
		check(t, fmt.Sprint("Const ", x.Shape, " of an empty list"), with(x), ins(), x)
	}
}

func TestValueOfTwo(t *testing.T) {
	a, b := tens(ints(2, 1), 10, 20), tens(ints(3), 1, 2, 4)
	for _, c := range []struct {
		op         int
		a, b, want api.Tensor
	}{
		{api.Add, a, b, tens(ints(2, 3), 11, 12, 14, 21, 22, 24)},
		{api.Sub, a, b, tens(ints(2, 3), 9, 8, 6, 19, 18, 16)},
		{api.Mul, a, b, tens(ints(2, 3), 10, 20, 40, 20, 40, 80)},
		{api.Div, a, b, tens(ints(2, 3), 10, 5, 2.5, 20, 10, 5)},
		// the order of both is kept
		{api.Sub, b, a, tens(ints(2, 3), -9, -8, -6, -19, -18, -16)},
		{api.Div, b, tens(nil, 2), tens(ints(3), 0.5, 1, 2)},
		{api.Div, tens(nil, 2), b, tens(ints(3), 2, 1, 0.5)},
		{api.Add, tens(nil, 1), tens(ints(), 2), tens(nil, 3)},
		{api.Mul, tens(ints(1, 1, 1, 1), 3), tens(ints(1), 5), tens(ints(1, 1, 1, 1), 15)},
		// noughts, infinities, what is rounded
		{api.Add, tens(ints(4), 0, less, inf, huge), tens(ints(4), less, less, below, 1), tens(ints(4), 0, less, nan, huge)},
		{api.Sub, tens(ints(4), 0, less, inf, huge), tens(ints(4), less, 0, inf, -1), tens(ints(4), 0, less, nan, huge)},
		{api.Mul, tens(ints(4), 0, less, inf, great), tens(ints(4), -1, -1, 0, 2), tens(ints(4), less, 0, nan, inf)},
		{api.Div, tens(ints(4), 0, 1, 1, inf), tens(ints(4), 0, less, below, inf), tens(ints(4), nan, below, less, nan)},
	} {
		check(t, fmt.Sprint(Name(c.op), c.a, c.b), node(c.op), ins(c.a, c.b), c.want)
	}
}

func TestValueOfOne(t *testing.T) {
	for _, c := range []struct {
		op       int
		from, to []float64
	}{
		{api.Neg, list(3, -4, 0, less, inf, below, nan, tiny), list(-3, 4, less, 0, below, inf, nan, -tiny)},
		{api.Exp, list(0, less, 1, -1, inf, below, nan, 1000), list(1, 1, math.Exp(1), math.Exp(-1), inf, 0, nan, inf)},
		{api.Log, list(1, 0, less, -1, inf, nan, 2, tiny), list(0, below, below, nan, inf, nan, math.Log(2), math.Log(tiny))},
		{api.Relu, list(3, -4, 0, less, inf, below, nan, -tiny), list(3, 0, 0, 0, inf, 0, nan, 0)},
	} {
		for _, s := range [][]int{ints(8), ints(2, 4), ints(1, 2, 2, 2)} {
			check(t, fmt.Sprint(Name(c.op), s), node(c.op), ins(tens(s, c.from...)), tens(s, c.to...))
		}
		check(t, Name(c.op)+" of no dimension", node(c.op), ins(tens(nil, c.from[0])), tens(nil, c.to[0]))
	}
}

func TestValueOfMatmul(t *testing.T) {
	a, b := tens(ints(2, 3), 1, 2, 3, 4, 5, 6), tens(ints(3, 2), 7, 8, 9, 10, 11, 12)
	for _, c := range []struct{ a, b, want api.Tensor }{
		{a, b, tens(ints(2, 2), 58, 64, 139, 154)},
		{b, a, tens(ints(3, 3), 39, 54, 69, 49, 68, 87, 59, 82, 105)},
		{tens(ints(1, 2), 1, 2), tens(ints(2, 1), 3, 4), tens(ints(1, 1), 11)},
		{tens(ints(2, 1), 1, 2), tens(ints(1, 2), 3, 4), tens(ints(2, 2), 3, 4, 6, 8)},
		// added in turn, from 0 on
		{tens(ints(1, 4), huge, 1, 1, 1), tens(ints(4, 1), 1, 1, 1, 1), tens(ints(1, 1), huge)},
		{tens(ints(1, 1), less), tens(ints(1, 1), 1), tens(ints(1, 1), 0)},
		{tens(ints(1, 1), inf), tens(ints(1, 2), 0, -1), tens(ints(1, 2), nan, below)},
	} {
		check(t, fmt.Sprint("matmul ", c.a, c.b), node(api.Matmul), ins(c.a, c.b), c.want)
	}
}

func TestValueOfSum(t *testing.T) {
	for _, c := range []struct {
		a    api.Tensor
		want float64
	}{
		{tens(nil, 4), 4},
		{tens(ints(), less), less},
		{tens(ints(1), -4), -4},
		{tens(ints(2), 3, 4), 7},
		{tens(ints(2, 3), 1, 2, 3, 4, 5, 6), 21},
		{tens(ints(2, 1, 1, 2), 1, 2, 3, 4), 10},
		{tens(ints(4), huge, 1, 1, 1), huge + 2}, // by halves
		{tens(ints(2, 2), huge, 1, 1, 1), huge + 2},
		{tens(ints(2), inf, below), nan},
		{tens(ints(2), great, great), inf},
		{tens(ints(3), 1, other, 1), nan},
	} {
		check(t, fmt.Sprint("sum ", c.a), node(api.Sum), ins(c.a), tens(ints(1), c.want))
	}
}

func TestValueOfBroadcast(t *testing.T) {
	for _, c := range []struct{ a, want api.Tensor }{
		{tens(nil, 5), tens(nil, 5)},
		{tens(nil, less), tens(ints(2), less, less)},
		{tens(ints(1), 5), tens(ints(2, 2), 5, 5, 5, 5)},
		{tens(ints(2), 1, 2), tens(ints(2), 1, 2)},
		{tens(ints(2), 1, 2), tens(ints(3, 2), 1, 2, 1, 2, 1, 2)},
		{tens(ints(2, 1), 1, 2), tens(ints(2, 3), 1, 1, 1, 2, 2, 2)},
		{tens(ints(2, 1), nan, inf), tens(ints(1, 1, 2, 2), nan, nan, inf, inf)},
		{tens(ints(1, 1), 7), tens(ints(2, 1), 7, 7)},
	} {
		check(t, fmt.Sprint("broadcast ", c.a, c.want.Shape), to(api.Broadcast, c.want.Shape...), ins(c.a), c.want)
	}
}

func TestValueOfReshape(t *testing.T) {
	data := list(1, less, nan, inf, below, tiny)
	shapes := [][]int{ints(6), ints(2, 3), ints(3, 2), ints(1, 6), ints(6, 1, 1, 1), ints(1, 3, 1, 2)}
	for _, r := range shapes {
		for _, s := range shapes {
			check(t, fmt.Sprint("reshape ", r, s), to(api.Reshape, s...), ins(tens(r, data...)), tens(s, data...))
		}
	}
	check(t, "reshape to none", node(api.Reshape), ins(tens(ints(1, 1), 5)), tens(nil, 5))
	check(t, "reshape from none", to(api.Reshape, 1, 1, 1, 1), ins(tens(nil, 5)), tens(ints(1, 1, 1, 1), 5))
	check(t, "reshape of none to none", to(api.Reshape), ins(tens(ints(), 5)), tens(nil, 5))
}

// TestValueIsTheirs: bit for bit what kernel and matrix answer, whatever the numbers.
func TestValueIsTheirs(t *testing.T) {
	n := len(strays)
	column, row := tens(ints(n, 1), strays...), tens(ints(1, n), strays...)
	for _, op := range ints(api.Add, api.Sub, api.Mul, api.Div) {
		want, _ := kernel.Two(op, column, row)
		check(t, Name(op), node(op), ins(column, row), want)
	}
	for _, op := range ints(api.Neg, api.Exp, api.Log, api.Relu) {
		want, _ := kernel.One(op, row)
		check(t, Name(op), node(op), ins(row), want)
	}
	want, _ := matrix.Mul(column, row)
	check(t, "matmul of a column", node(api.Matmul), ins(column, row), want)
	want, _ = matrix.Mul(row, column)
	check(t, "matmul of a row", node(api.Matmul), ins(row, column), want)
	want, _ = matrix.Sum(row)
	check(t, "sum", node(api.Sum), ins(row), want)
	want, _ = kernel.Spread(column, ints(2, n, 3))
	check(t, "broadcast", to(api.Broadcast, 2, n, 3), ins(column), want)
}

// TestTheRestOfANodeIsNotAsked: a node's other fields are another's, and are taken whatever they are.
func TestTheRestOfANodeIsNotAsked(t *testing.T) {
	bad := tens(ints(3), 1)
	full := func(op int) api.Node {
		return api.Node{Op: op, In: ints(-1, 5, 9), To: ints(0, -7), No: -3, Val: bad, Hooks: []api.Hook{{Do: 99, X: nan}}}
	}
	a, b := tens(ints(1, 1), 8), tens(ints(1, 1), 2)
	for op, want := range map[int]float64{api.Add: 10, api.Sub: 6, api.Mul: 16, api.Div: 4, api.Matmul: 16} {
		check(t, Name(op), full(op), ins(a, b), tens(ints(1, 1), want))
	}
	for op, want := range map[int]float64{api.Neg: -8, api.Exp: math.Exp(8), api.Log: math.Log(8), api.Relu: 8} {
		check(t, Name(op), full(op), ins(a), tens(ints(1, 1), want))
	}
	check(t, "sum", full(api.Sum), ins(a), tens(ints(1), 8))
	n := full(api.Const)
	n.Val = b
	check(t, "const", n, nil, b)
	for _, op := range ints(api.Broadcast, api.Reshape) {
		n = full(op)
		n.To = ints(1)
		if op == api.Broadcast {
			n.To = ints(1, 1)
		}
		check(t, Name(op), n, ins(a), tens(n.To, 8))
	}
}

// TestSizesAtTheLimit: at the limit all is well, one past it is refused.
func TestSizesAtTheLimit(t *testing.T) {
	most, past := counted(4096), counted(4097)
	for _, op := range ints(api.Neg, api.Exp, api.Log, api.Relu) {
		want, _ := kernel.One(op, most)
		check(t, Name(op), node(op), ins(most), want)
		refused(t, Name(op), node(op), ins(past), api.ErrShape)
	}
	for _, op := range ints(api.Add, api.Sub, api.Mul, api.Div) {
		a, b := counted(64, 1), counted(64)
		want, _ := kernel.Two(op, a, b)
		check(t, Name(op), node(op), ins(a, b), want)
		refused(t, Name(op), node(op), ins(a, counted(65)), api.ErrSize)
		refused(t, Name(op), node(op), ins(counted(1, 17, 1), counted(241)), api.ErrSize)
		refused(t, Name(op), node(op), ins(past, past), api.ErrShape)
	}
	a, b := counted(64, 2), counted(2, 64)
	want, _ := matrix.Mul(a, b)
	check(t, "matmul", node(api.Matmul), ins(a, b), want)
	refused(t, "matmul", node(api.Matmul), ins(a, counted(2, 65)), api.ErrSize)
	refused(t, "matmul", node(api.Matmul), ins(counted(17, 1), counted(1, 241)), api.ErrSize)
	refused(t, "matmul", node(api.Matmul), ins(counted(4096, 1), counted(1, 4096)), api.ErrSize)
	want, _ = matrix.Sum(most)
	check(t, "sum", node(api.Sum), ins(most), want)
	refused(t, "sum", node(api.Sum), ins(past), api.ErrShape)
	want, _ = kernel.Spread(tens(nil, 3), ints(4096))
	check(t, "broadcast", to(api.Broadcast, 4096), ins(tens(nil, 3)), want)
	refused(t, "broadcast", to(api.Broadcast, 4097), ins(tens(nil, 3)), api.ErrShape)
	check(t, "reshape", to(api.Reshape, 8, 8, 8, 8), ins(most), tens(ints(8, 8, 8, 8), most.Data...))
	refused(t, "reshape", to(api.Reshape, 4097), ins(most), api.ErrSize)
	refused(t, "reshape", to(api.Reshape, 4097), ins(past), api.ErrShape)
	refused(t, "const", with(past), nil, api.ErrShape)
}
