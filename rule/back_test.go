package rule

import (
	"fmt"
	"math"
	"testing"

	"backstitch/api"
	"backstitch/op"
)

// TestBackOfConst: there are no inputs, so there is nothing for them, whatever the gradient.
func TestBackOfConst(t *testing.T) {
	for _, x := range []api.Tensor{tens(nil, 5), tens(ints(1), 5), tens(ints(2), 8, 9), tens(ints(2, 2), less, nan, inf, tiny), counted(4096)} {
		check(t, fmt.Sprint("const ", x.Shape), with(x), nil, x)
		check(t, fmt.Sprint("const ", x.Shape, " of an empty list"), with(x), ins(), x)
		checkOut(t, fmt.Sprint("const ", x.Shape, " with another output"), with(x), nil, stray(0, x.Shape...), stray(1, x.Shape...))
	}
}

// TestBackOfTwo: the chapter's rules, by hand; the numbers come out even.
func TestBackOfTwo(t *testing.T) {
	a, b := tens(ints(2), 6, 8), tens(ints(2), 2, 4)
	column, row := tens(ints(2, 1), 2, 3), tens(ints(2), 5, 8)
	wide := tens(ints(2, 2), 1, 10, 100, 1000)
	for _, c := range []struct {
		op                    int
		a, b, g, wantA, wantB api.Tensor
	}{
		{api.Mul, tens(nil, 2), tens(nil, 3), tens(nil, 1), tens(nil, 3), tens(nil, 2)}, // the chapter's own
		{api.Add, a, b, tens(ints(2), 1, -2), tens(ints(2), 1, -2), tens(ints(2), 1, -2)},
		{api.Sub, a, b, tens(ints(2), 1, -2), tens(ints(2), 1, -2), tens(ints(2), -1, 2)},
		{api.Mul, a, b, tens(ints(2), 1, -2), tens(ints(2), 2, -8), tens(ints(2), 6, -16)},
		{api.Div, a, b, tens(ints(2), 1, -2), tens(ints(2), 0.5, -0.5), tens(ints(2), -1.5, 1)},
		{api.Sub, b, a, tens(ints(2), 3, 5), tens(ints(2), 3, 5), tens(ints(2), -3, -5)},
		{api.Div, b, a, tens(ints(2), 36, 64), tens(ints(2), 6, 8), tens(ints(2), -2, -4)},
		// both are broadcast
		{api.Add, column, row, wide, tens(ints(2, 1), 11, 1100), tens(ints(2), 101, 1010)},
		{api.Sub, column, row, wide, tens(ints(2, 1), 11, 1100), tens(ints(2), -101, -1010)},
		{api.Mul, column, row, wide, tens(ints(2, 1), 85, 8500), tens(ints(2), 302, 3020)},
		{api.Div, tens(ints(2, 1), 8, 16), tens(ints(2), 2, 4), wide, tens(ints(2, 1), 3, 300), tens(ints(2), -402, -1005)},
		// the first alone is
		{api.Add, tens(nil, 7), b, tens(ints(2), 1, 10), tens(nil, 11), tens(ints(2), 1, 10)},
		{api.Sub, tens(ints(1), 7), b, tens(ints(2), 1, 10), tens(ints(1), 11), tens(ints(2), -1, -10)},
		{api.Mul, tens(nil, 7), b, tens(ints(2), 1, 10), tens(nil, 42), tens(ints(2), 7, 70)},
		{api.Div, tens(nil, 8), b, tens(ints(2), 1, 10), tens(nil, 3), tens(ints(2), -2, -5)},
		// the second alone is
		{api.Add, a, tens(ints(1), 7), tens(ints(2), 1, 10), tens(ints(2), 1, 10), tens(ints(1), 11)},
		{api.Sub, a, tens(nil, 7), tens(ints(2), 1, 10), tens(ints(2), 1, 10), tens(nil, -11)},
		{api.Mul, a, tens(ints(1), 7), tens(ints(2), 1, 10), tens(ints(2), 7, 70), tens(ints(1), 86)},
		{api.Div, a, tens(nil, 2), tens(ints(2), 1, 10), tens(ints(2), 0.5, 5), tens(nil, -21.5)},
	} {
		check(t, fmt.Sprint(op.Name(c.op), c.a, c.b), node(c.op), ins(c.a, c.b), c.g, c.wantA, c.wantB)
	}
}

// TestBackOfOneTwice: one tensor as both inputs: each of them gets its own part.
func TestBackOfOneTwice(t *testing.T) {
	a, g := tens(ints(2), 2, 4), tens(ints(2), 8, 16)
	for o, want := range map[int][]api.Tensor{
		api.Add: ins(g, g),
		api.Sub: ins(g, tens(ints(2), -8, -16)),
		api.Mul: ins(tens(ints(2), 16, 64), tens(ints(2), 16, 64)),
		api.Div: ins(tens(ints(2), 4, 4), tens(ints(2), -4, -4)),
	} {
		check(t, op.Name(o), node(o), ins(a, a), g, want...)
	}
	check(t, "add of itself to itself", node(api.Add), ins(a, a), a, a, a)
	m := tens(ints(2, 2), 1, 2, 3, 4)
	check(t, "matmul", node(api.Matmul), ins(m, m), tens(ints(2, 2), 1, 10, 100, 1000), tens(ints(2, 2), 21, 43, 2100, 4300), tens(ints(2, 2), 301, 3010, 402, 4020))
	checkOut(t, "matmul of itself, itself and itself", node(api.Matmul), ins(m, m), m, m, tens(ints(2, 2), 5, 11, 11, 25), tens(ints(2, 2), 10, 14, 14, 20))
}

// TestBackOfOne: the chapter's rules, by hand.
func TestBackOfOne(t *testing.T) {
	for _, c := range []struct {
		op            int
		a, grad, want []float64
	}{
		{api.Neg, list(5, 8, 0, -1), list(1, -2, 3, -4), list(-1, 2, -3, 4)},
		{api.Exp, list(0, less, 0, 0), list(5, -6, 7, 0), list(5, -6, 7, 0)},
		{api.Exp, list(1, -1, 2, 0.5), list(1, 2, -3, 4), list(math.Exp(1), 2*math.Exp(-1), -3*math.Exp(2), 4*math.Exp(0.5))},
		{api.Log, list(5, 8, 0.5, -2), list(10, 16, 3, 7), list(2, 2, 6, -3.5)},
		{api.Relu, list(5, 0, -1, tiny), list(1, 2, 3, 4), list(1, 0, 0, 4)},
		{api.Relu, list(-5, 3, -tiny, inf), list(-1, -2, -3, -4), list(0, -2, 0, -4)},
	} {
		for _, s := range [][]int{ints(4), ints(2, 2), ints(1, 2, 1, 2)} {
			check(t, fmt.Sprint(op.Name(c.op), s, c.a), node(c.op), ins(tens(s, c.a...)), tens(s, c.grad...), tens(s, c.want...))
		}
		check(t, op.Name(c.op)+" of no dimension", node(c.op), ins(tens(nil, c.a[0])), tens(nil, c.grad[0]), tens(nil, c.want[0]))
	}
}

// TestBackOfExpTakesOut: it is the output that is handed in, not math.Exp again.
func TestBackOfExpTakesOut(t *testing.T) {
	checkOut(t, "exp", node(api.Exp), ins(tens(nil, 3)), tens(nil, 9), tens(nil, 2), tens(nil, 18))
	checkOut(t, "exp", node(api.Exp), ins(tens(ints(3), nan, 0, inf)), tens(ints(3), -4, 0, 0.25), tens(ints(3), 3, 5, 8), tens(ints(3), -12, 0, 2))
}

func TestBackOfMatmul(t *testing.T) {
	for _, c := range []struct{ a, b, g, wantA, wantB api.Tensor }{
		{tens(ints(1, 2), 1, 2), tens(ints(2, 2), 3, 4, 5, 6), tens(ints(1, 2), 10, 100), tens(ints(1, 2), 430, 650), tens(ints(2, 2), 10, 100, 20, 200)},
		{tens(ints(1, 1), 2), tens(ints(1, 1), 3), tens(ints(1, 1), 5), tens(ints(1, 1), 15), tens(ints(1, 1), 10)},
		{tens(ints(1, 3), 1, 2, 3), tens(ints(3, 1), 4, 5, 6), tens(ints(1, 1), 10), tens(ints(1, 3), 40, 50, 60), tens(ints(3, 1), 10, 20, 30)},
		{tens(ints(2, 1), 1, 2), tens(ints(1, 3), 3, 4, 5), tens(ints(2, 3), 1, 10, 100, 1000, 2, 20), tens(ints(2, 1), 543, 3108), tens(ints(1, 3), 2001, 14, 140)},
		{tens(ints(2, 3), 1, 2, 3, 4, 5, 6), tens(ints(3, 1), 7, 8, 9), tens(ints(2, 1), 1, 10), tens(ints(2, 3), 7, 8, 9, 70, 80, 90), tens(ints(3, 1), 41, 52, 63)},
	} {
		check(t, fmt.Sprint("matmul ", c.a, c.b), node(api.Matmul), ins(c.a, c.b), c.g, c.wantA, c.wantB)
	}
}

func TestBackOfSum(t *testing.T) {
	for _, s := range [][]int{nil, ints(), ints(1), ints(2), ints(2, 3), ints(1, 1, 1, 1), ints(2, 1, 1, 2), ints(4096), ints(8, 8, 8, 8)} {
		for _, x := range append(strays, 7) {
			want := filled(s, func(int) float64 { return x })
			check(t, fmt.Sprint("sum ", s, x), node(api.Sum), ins(counted(s...)), tens(ints(1), x), want)
		}
	}
}

func TestBackOfBroadcast(t *testing.T) {
	g := tens(ints(2, 3), 1, 2, 3, 10, 20, 30)
	for _, c := range []struct{ a, g, want api.Tensor }{
		{tens(nil, 5), tens(nil, 7), tens(nil, 7)},
		{tens(nil, 5), tens(ints(2), 3, 4), tens(nil, 7)},
		{tens(nil, 5), g, tens(nil, 66)},
		{tens(ints(1), 5), g, tens(ints(1), 66)},
		{tens(ints(1, 1), 5), g, tens(ints(1, 1), 66)},
		{tens(ints(2, 1), 5, 6), g, tens(ints(2, 1), 6, 60)},
		{tens(ints(3), 5, 6, 7), g, tens(ints(3), 11, 22, 33)},
		{tens(ints(1, 3), 5, 6, 7), g, tens(ints(1, 3), 11, 22, 33)},
		{counted(2, 3), g, g},
		{tens(ints(2), 5, 6), tens(ints(1, 1, 3, 2), 1, 2, 3, 4, 5, 6), tens(ints(2), 9, 12)},
		{tens(ints(2, 1, 2), 1, 2, 3, 4), tens(ints(2, 2, 2), 1, 2, 3, 4, 5, 6, 7, 8), tens(ints(2, 1, 2), 4, 6, 12, 14)},
	} {
		check(t, fmt.Sprint("broadcast ", c.a.Shape, c.g.Shape), to(api.Broadcast, c.g.Shape...), ins(c.a), c.g, c.want)
	}
}

func TestBackOfReshape(t *testing.T) {
	data := list(1, less, nan, inf, below, tiny)
	shapes := [][]int{ints(6), ints(2, 3), ints(3, 2), ints(1, 6), ints(6, 1, 1, 1), ints(1, 3, 1, 2)}
	for _, r := range shapes {
		for _, s := range shapes {
			check(t, fmt.Sprint("reshape ", r, s), to(api.Reshape, s...), ins(counted(r...)), tens(s, data...), tens(r, data...))
		}
	}
	check(t, "reshape to none", node(api.Reshape), ins(tens(ints(1, 1), 5)), tens(nil, 7), tens(ints(1, 1), 7))
	check(t, "reshape from none", to(api.Reshape, 1, 1, 1, 1), ins(tens(nil, 5)), tens(ints(1, 1, 1, 1), less), tens(nil, less))
	check(t, "reshape of none to none", to(api.Reshape), ins(tens(ints(), 5)), tens(nil, 7), tens(nil, 7))
}

// TestTheRestOfANodeIsNotAsked: a node's other fields are another's, and are taken whatever they are.
func TestTheRestOfANodeIsNotAsked(t *testing.T) {
	for _, o := range ruled() {
		n, in := plain(o), given(o)
		out := value(t, n, in)
		grad := counted(out.Shape...)
		want, _ := Back(n, in, out, grad)
		n.In, n.No, n.Hooks = ints(-1, 5, 9), -3, []api.Hook{{Do: 99, X: nan}}
		if o != api.Const {
			n.Val = tens(ints(3), 1)
		}
		if o != api.Broadcast && o != api.Reshape {
			n.To = ints(0, -7)
		}
		checkOut(t, op.Name(o), n, in, out, grad, want...)
	}
}
