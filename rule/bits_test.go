package rule

import (
	"fmt"
	"math"
	"testing"

	"backstitch/api"
	"backstitch/op"
)

// falls answers the place in a row of shape from whose number falls on place i of shape on.
func falls(from, on []int, i int) int {
	place, step := 0, 1
	for k := 1; k <= len(on); k++ {
		n := on[len(on)-k]
		if k <= len(from) {
			if d := from[len(from)-k]; d != 1 {
				place += i % n * step
				step *= d
			}
		}
		i /= n
	}
	return place
}

// halves adds by halves, the first being the greater one; each sum is rounded by itself.
func halves(l []float64) float64 {
	if len(l) == 1 {
		return l[0]
	}
	h := (len(l) + 1) / 2
	x, y := halves(l[:h]), halves(l[h:])
	return x + y
}

// gatheredTo adds what fell on each place of shape s.
func gatheredTo(s []int, x api.Tensor) api.Tensor {
	l := make([][]float64, times(s))
	for i, v := range x.Data {
		k := falls(s, x.Shape, i)
		l[k] = append(l[k], v)
	}
	return filled(s, func(i int) float64 { return halves(l[i]) })
}

// first and second are the chapter's rules of two inputs, number by number, each step rounded by itself.
func first(op int, g, a, b float64) float64 {
	switch op {
	case api.Mul:
		return float64(g * b)
	case api.Div:
		return float64(g / b)
	}
	return g
}

func second(op int, g, a, b float64) float64 {
	switch op {
	case api.Sub:
		return -g
	case api.Mul:
		return float64(g * a)
	case api.Div:
		x, y := float64(g*a), float64(b*b)
		return -float64(x / y)
	}
	return g
}

// spelled is what the rules give, spelled out: each number of the gradient's shape, and then the gathering.
func spelled(op int, a, b, g api.Tensor) []api.Tensor {
	all := func(f func(op int, g, a, b float64) float64) api.Tensor {
		return filled(g.Shape, func(i int) float64 {
			return f(op, g.Data[i], a.Data[falls(a.Shape, g.Shape, i)], b.Data[falls(b.Shape, g.Shape, i)])
		})
	}
	return ins(gatheredTo(a.Shape, all(first)), gatheredTo(b.Shape, all(second)))
}

// joints is two shapes that are broadcast to a third.
func joints() [][3][]int {
	return [][3][]int{
		{nil, nil, nil},
		{ints(1), nil, ints(1)},
		{ints(5), ints(5), ints(5)},
		{nil, ints(7), ints(7)},
		{ints(7), ints(1), ints(7)},
		{ints(3, 1), ints(4), ints(3, 4)},
		{ints(4), ints(3, 1), ints(3, 4)},
		{ints(3, 4), ints(1, 1), ints(3, 4)},
		{ints(2, 1, 3), ints(5, 1), ints(2, 5, 3)},
		{ints(1, 1, 1, 1), ints(2, 3), ints(1, 1, 2, 3)},
		{ints(2, 1, 3, 1), ints(1, 5, 1, 7), ints(2, 5, 3, 7)},
		{ints(3, 1, 1), ints(2, 1, 3, 5), ints(2, 3, 3, 5)},
		{ints(64, 1), ints(64), ints(64, 64)},
		{nil, ints(4096), ints(4096)},
		{ints(8, 1, 8, 1), ints(1, 8, 1, 8), ints(8, 8, 8, 8)},
	}
}

// TestTwoBitForBit: whatever is broadcast, with numbers none of whose sums and products are exact, and with all kinds of numbers.
func TestTwoBitForBit(t *testing.T) {
	for _, s := range joints() {
		for _, o := range ints(api.Add, api.Sub, api.Mul, api.Div) {
			a, b, g := uneven(1, s[0]...), uneven(2, s[1]...), uneven(3, s[2]...)
			check(t, fmt.Sprint(op.Name(o), s), node(o), ins(a, b), g, spelled(o, a, b, g)...)
			for from := range strays {
				a, b, g = stray(from, s[0]...), stray(from*3+1, s[1]...), stray(from*2, s[2]...)
				check(t, fmt.Sprint(op.Name(o), s, from), node(o), ins(a, b), g, spelled(o, a, b, g)...)
			}
		}
	}
}

// TestTwoOfAllNumbers: each kind of number with each other.
func TestTwoOfAllNumbers(t *testing.T) {
	for _, o := range ints(api.Add, api.Sub, api.Mul, api.Div) {
		for _, x := range strays {
			for _, y := range strays {
				for _, z := range strays {
					a, b, g := tens(ints(1), x), tens(ints(1), y), tens(ints(1), z)
					check(t, fmt.Sprint(op.Name(o), x, y, z), node(o), ins(a, b), g, spelled(o, a, b, g)...)
				}
			}
		}
	}
}

// TestOneOfAllNumbers: each kind of number as input, as output and as gradient.
func TestOneOfAllNumbers(t *testing.T) {
	for _, x := range strays {
		for _, y := range strays {
			for _, z := range strays {
				above := 0.0
				if x > 0 {
					above = z
				}
				for o, want := range map[int]float64{api.Neg: -z, api.Exp: z * y, api.Log: z / x, api.Relu: above, api.Reshape: z, api.Broadcast: z} {
					checkOut(t, fmt.Sprint(op.Name(o), x, y, z), to(o, 1), ins(tens(ints(1), x)), tens(ints(1), y), tens(ints(1), z), tens(ints(1), want))
				}
			}
		}
	}
}

// TestRelu: nothing goes through at 0, -0, below and NaN, not even an infinity or a NaN; what goes through stays as it is.
func TestRelu(t *testing.T) {
	for _, x := range list(0, less, nan, other, -1, -tiny, below, -great) {
		for _, g := range strays {
			check(t, fmt.Sprint("relu ", x, g), node(api.Relu), ins(tens(nil, x)), tens(nil, g), tens(nil, 0))
		}
	}
	for _, x := range list(tiny, 1, great, inf) {
		for _, g := range strays {
			check(t, fmt.Sprint("relu ", x, g), node(api.Relu), ins(tens(nil, x)), tens(nil, g), tens(nil, g))
		}
	}
}

// TestSignGoesAheadOfGather: 1 and -1 are turned, and then added: that is 0; turned afterwards it would be -0.
func TestSignGoesAheadOfGather(t *testing.T) {
	g := tens(ints(2), 1, -1)
	check(t, "sub", node(api.Sub), ins(tens(ints(2), 5, 5), tens(nil, 3)), g, g, tens(nil, 0))
	check(t, "div", node(api.Div), ins(tens(ints(2), 1, 1), tens(ints(1), 1)), g, g, tens(ints(1), 0))
	check(t, "sub of noughts", node(api.Sub), ins(tens(ints(2), 5, 5), tens(nil, 3)), tens(ints(2), 0, 0), tens(ints(2), 0, 0), tens(nil, less))
	check(t, "sub of noughts below", node(api.Sub), ins(tens(ints(2), 5, 5), tens(nil, 3)), tens(ints(2), less, less), tens(ints(2), less, less), tens(nil, 0))
}

// TestNoughtsKeepTheirSign: what is gathered is not added to a 0.
func TestNoughtsKeepTheirSign(t *testing.T) {
	noughts := tens(ints(2), less, less)
	check(t, "add", node(api.Add), ins(tens(nil, 1), tens(ints(2), 1, 1)), noughts, tens(nil, less), noughts)
	check(t, "mul", node(api.Mul), ins(tens(ints(1), 1), tens(ints(2), 1, 1)), noughts, tens(ints(1), less), noughts)
	check(t, "div", node(api.Div), ins(tens(nil, 1), tens(nil, inf)), tens(nil, 1), tens(nil, 0), tens(nil, less))
	check(t, "broadcast", to(api.Broadcast, 2), ins(tens(nil, 1)), noughts, tens(nil, less))
	check(t, "reshape", to(api.Reshape, 2, 1), ins(tens(ints(2), 1, 1)), tens(ints(2, 1), less, less), noughts)
	check(t, "neg", node(api.Neg), ins(tens(ints(2), 1, 1)), tens(ints(2), 0, less), tens(ints(2), less, 0))
	check(t, "relu", node(api.Relu), ins(tens(ints(2), 1, 1)), noughts, noughts)
	// a row of products begins at 0
	check(t, "matmul", node(api.Matmul), ins(tens(ints(1, 1), 1), tens(ints(1, 1), 1)), tens(ints(1, 1), less), tens(ints(1, 1), 0), tens(ints(1, 1), 0))
}

// TestProductsGoAheadOfGather: what is gathered is the products, not the gradient, which would be another sum.
func TestProductsGoAheadOfGather(t *testing.T) {
	// 2^53 times 1 and 1 times 3 are added to 2^53 + 4; 2^53 and 1 were 2^53
	check(t, "mul", node(api.Mul), ins(tens(nil, 1), tens(ints(2), 1, 3)), tens(ints(2), huge, 1), tens(nil, huge+4), tens(ints(2), huge, 1))
	check(t, "mul of one number", node(api.Mul), ins(tens(ints(1), 1), tens(ints(2), great, great)), tens(ints(2), 2, -2), tens(ints(1), nan), tens(ints(2), 2, -2))
	check(t, "div", node(api.Div), ins(tens(ints(2), 1, 1), tens(nil, 1.0/4)), tens(ints(2), great, -great), tens(ints(2), inf, below), tens(nil, nan))
}

// TestGatherIsByHalves: 2^53, 1, 1 and 1 are added by halves, in their order, and no other way.
func TestGatherIsByHalves(t *testing.T) {
	g, ones := tens(ints(4), huge, 1, 1, 1), tens(ints(4), 1, 1, 1, 1)
	turnedG := tens(ints(4), -huge, -1, -1, -1)
	check(t, "add", node(api.Add), ins(tens(nil, 1), ones), g, tens(nil, huge+2), g)
	check(t, "sub", node(api.Sub), ins(ones, tens(nil, 1)), g, g, tens(nil, -huge-2))
	check(t, "mul", node(api.Mul), ins(tens(nil, 1), ones), g, tens(nil, huge+2), g)
	check(t, "div", node(api.Div), ins(ones, tens(nil, 1)), g, g, tens(nil, -huge-2))
	check(t, "div of one number", node(api.Div), ins(tens(nil, 1), ones), g, tens(nil, huge+2), turnedG)
	check(t, "broadcast", to(api.Broadcast, 4), ins(tens(nil, 1)), g, tens(nil, huge+2))
	check(t, "broadcast of three", to(api.Broadcast, 3), ins(tens(nil, 1)), tens(ints(3), huge, 1, 1), tens(nil, huge))
	check(t, "broadcast of three, the other way", to(api.Broadcast, 3), ins(tens(nil, 1)), tens(ints(3), 1, 1, huge), tens(nil, huge+2))
}

// TestMatmulIsInTurn: 2^53, 1, 1 and 1 are added one after another.
func TestMatmulIsInTurn(t *testing.T) {
	g, ones := tens(ints(1, 4), huge, 1, 1, 1), tens(ints(1, 4), 1, 1, 1, 1)
	check(t, "to the first", node(api.Matmul), ins(tens(ints(1, 1), 1), ones), g, tens(ints(1, 1), huge), g)
	g, ones = tens(ints(4, 1), huge, 1, 1, 1), tens(ints(4, 1), 1, 1, 1, 1)
	check(t, "to the second", node(api.Matmul), ins(ones, tens(ints(1, 1), 1)), g, g, tens(ints(1, 1), huge))
}

// TestEachProductIsRounded: 1 + 2^-30 by itself is rounded to 1 + 2^-29, and what is left when that is taken away is 0, not 2^-60.
func TestEachProductIsRounded(t *testing.T) {
	x := 1 + math.Ldexp(1, -30)
	y := 1 + math.Ldexp(1, -29)
	g := tens(ints(2), x, -1)
	check(t, "mul, the first", node(api.Mul), ins(tens(nil, 1), tens(ints(2), x, y)), g, tens(nil, 0), g)
	check(t, "mul, the second", node(api.Mul), ins(tens(ints(2), x, y), tens(nil, 1)), g, g, tens(nil, 0))
	g = tens(ints(2), -1, x)
	check(t, "mul, the other way", node(api.Mul), ins(tens(nil, 1), tens(ints(2), y, x)), g, tens(nil, 0), g)
	row, column := tens(ints(1, 2), x, -1), tens(ints(2, 1), x, -1)
	check(t, "matmul, the first", node(api.Matmul), ins(tens(ints(1, 1), 1), tens(ints(1, 2), x, y)), row, tens(ints(1, 1), 0), row)
	check(t, "matmul, the second", node(api.Matmul), ins(tens(ints(2, 1), x, y), tens(ints(1, 1), 1)), column, column, tens(ints(1, 1), 0))
}

// over divides when the program runs: of constants the quotient would be exact, and rounded at the end alone.
func over(x, y float64) float64 { return x / y }

// TestStepsOfDiv: the second input's steps are those of the chapter: where others overflow, vanish or are rounded, it is seen.
func TestStepsOfDiv(t *testing.T) {
	for _, c := range []struct{ a, b, g, wantA, wantB float64 }{
		{great, 2, 2, 1, below},                     // G Mul a is past all numbers
		{1, 1e200, 1e300, over(1e300, 1e200), less}, // b Mul b is
		{1e-200, 1e-200, 1, over(1, 1e-200), below}, // b Mul b is 0
		{1e-200, 1, 1e-200, 1e-200, less},           // G Mul a is 0
		{0, 1e-200, 1, over(1, 1e-200), nan},
		{3, 7, 0.1, over(0.1, 7), -over(0.30000000000000004, 49)},
		{0, 2, 1, 0.5, less},
		{less, 2, 1, 0.5, 0},
		{0, 2, -1, -0.5, 0},
		{1, 0, 1, inf, below},
		{1, less, 1, below, below},
		{0, 0, 1, inf, nan},
		{1, below, 1, less, less},
		{inf, inf, 1, 0, nan},
	} {
		check(t, fmt.Sprint("div ", c), node(api.Div), ins(tens(nil, c.a), tens(nil, c.b)), tens(nil, c.g), tens(nil, c.wantA), tens(nil, c.wantB))
	}
}

// turned answers a matrix with its rows for columns.
func turned(x api.Tensor) api.Tensor {
	r, c := x.Shape[0], x.Shape[1]
	return filled(ints(c, r), func(i int) float64 { return x.Data[i%r*c+i/r] })
}

// rowsByColumns is a product of matrices, one sum after another from 0 on.
func rowsByColumns(x, y api.Tensor) api.Tensor {
	inner, columns := x.Shape[1], y.Shape[1]
	return filled(ints(x.Shape[0], columns), func(i int) float64 {
		sum := 0.0
		for k := range inner {
			sum += float64(x.Data[i/columns*inner+k] * y.Data[k*columns+i%columns])
		}
		return sum
	})
}

func TestMatmulBitForBit(t *testing.T) {
	for _, s := range [][3]int{{1, 1, 1}, {1, 2, 3}, {3, 2, 1}, {2, 3, 2}, {1, 7, 1}, {5, 1, 4}, {4, 5, 6}, {64, 64, 64}, {1, 4096, 1}, {4096, 1, 1}, {1, 1, 4096}, {2, 2048, 2}, {64, 2, 64}} {
		r, k, c := s[0], s[1], s[2]
		a, b, g := uneven(1, r, k), uneven(2, k, c), uneven(3, r, c)
		check(t, fmt.Sprint("matmul ", s), node(api.Matmul), ins(a, b), g, rowsByColumns(g, turned(b)), rowsByColumns(turned(a), g))
		for from := range strays {
			if r*k*c > 1000 {
				break
			}
			a, b, g = stray(from, r, k), stray(from*3+1, k, c), stray(from*2, r, c)
			check(t, fmt.Sprint("matmul ", s, from), node(api.Matmul), ins(a, b), g, rowsByColumns(g, turned(b)), rowsByColumns(turned(a), g))
		}
	}
}

// TestBroadcastBitForBit: to each shape that another is broadcast to.
func TestBroadcastBitForBit(t *testing.T) {
	for _, s := range joints() {
		for _, r := range s[:2] {
			for from := range strays {
				g := stray(from, s[2]...)
				if from == 0 {
					g = uneven(3, s[2]...)
				}
				check(t, fmt.Sprint("broadcast ", r, s[2]), to(api.Broadcast, s[2]...), ins(counted(r...)), g, gatheredTo(r, g))
			}
		}
	}
}

// TestSizesAtTheLimit: at the limit all is well.
func TestSizesAtTheLimit(t *testing.T) {
	for _, s := range [][]int{ints(4096), ints(64, 64), ints(1, 4096), ints(8, 8, 8, 8)} {
		a, g := uneven(1, s...), uneven(2, s...)
		out := uneven(3, s...)
		each := func(f func(i int) float64) api.Tensor { return filled(s, f) }
		checkOut(t, "neg", node(api.Neg), ins(a), out, g, each(func(i int) float64 { return -g.Data[i] }))
		checkOut(t, "exp", node(api.Exp), ins(a), out, g, each(func(i int) float64 { return g.Data[i] * out.Data[i] }))
		checkOut(t, "log", node(api.Log), ins(a), out, g, each(func(i int) float64 { return g.Data[i] / a.Data[i] }))
		checkOut(t, "relu", node(api.Relu), ins(a), out, g, each(func(i int) float64 {
			if a.Data[i] > 0 {
				return g.Data[i]
			}
			return 0
		}))
		checkOut(t, "reshape", to(api.Reshape, 2048, 2), ins(a), uneven(3, 2048, 2), tens(ints(2048, 2), g.Data...), g)
		checkOut(t, "const", with(a), nil, out, g)
	}
}
