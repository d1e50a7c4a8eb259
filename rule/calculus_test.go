package rule

import (
	"math"
	"slices"
	"testing"

	"backstitch/api"
	"backstitch/op"
)

// small answers a tensor of small whole numbers of both signs.
func small(seed int, s ...int) api.Tensor {
	return filled(s, func(i int) float64 { return float64((i*7+seed*5)%11 - 5) })
}

// moved answers in with one number of one input moved by that much.
func moved(in []api.Tensor, i, k int, by float64) []api.Tensor {
	l := slices.Clone(in)
	l[i].Data = slices.Clone(in[i].Data)
	l[i].Data[k] += by
	return l
}

// weighed is the sum of x's numbers, each times its gradient.
func weighed(x, grad api.Tensor) float64 {
	sum := 0.0
	for i, v := range x.Data {
		sum += v * grad.Data[i]
	}
	return sum
}

// TestDerivativeOfWholeNumbers: T5: where a value is straight in each number, moving that number by 1 moves the weighed output by the gradient, exactly.
func TestDerivativeOfWholeNumbers(t *testing.T) {
	for _, c := range []struct {
		n  api.Node
		in []api.Tensor
	}{
		{node(api.Add), ins(small(1, 2, 1), small(2, 3))},
		{node(api.Sub), ins(small(1, 3), small(2, 2, 3))},
		{node(api.Sub), ins(small(1, 2, 3), small(2))},
		{node(api.Mul), ins(small(1, 2, 1), small(2, 3))},
		{node(api.Mul), ins(small(1, 2, 1, 3), small(2, 2, 4, 1))},
		{node(api.Neg), ins(small(1, 2, 3))},
		{node(api.Matmul), ins(small(1, 2, 3), small(2, 3, 4))},
		{node(api.Sum), ins(small(1, 2, 3))},
		{node(api.Sum), ins(small(1))},
		{to(api.Broadcast, 2, 3, 4), ins(small(1, 3, 1))},
		{to(api.Reshape, 3, 2), ins(small(1, 2, 3))},
	} {
		out := value(t, c.n, c.in)
		grad := small(3, out.Shape...)
		got, e := Back(c.n, c.in, out, grad)
		if e != api.OK || len(got) != len(c.in) {
			t.Fatalf("%s: Back = %v, %v", op.Name(c.n.Op), got, e)
		}
		for i, x := range c.in {
			want := filled(x.Shape, func(k int) float64 {
				return weighed(value(t, c.n, moved(c.in, i, k, 1)), grad) - weighed(out, grad)
			})
			if !slices.Equal(got[i].Shape, want.Shape) || !slices.Equal(got[i].Data, want.Data) { // of noughts the sign is another's
				t.Errorf("%s: input %d has %v, want %v", op.Name(c.n.Op), i, got[i], want)
			}
		}
	}
}

// TestDerivativeNearby: where a value is bent, the gradient is near the slope.
func TestDerivativeNearby(t *testing.T) {
	const h = 1.0 / (1 << 16)
	a, b := tens(ints(3), 0.5, 2, 3), tens(ints(2, 1), 1.5, -2)
	for _, c := range []struct {
		n  api.Node
		in []api.Tensor
	}{
		{node(api.Div), ins(a, b)},
		{node(api.Div), ins(b, a)},
		{node(api.Exp), ins(a)},
		{node(api.Log), ins(a)},
		{node(api.Relu), ins(b)},
	} {
		out := value(t, c.n, c.in)
		grad := small(3, out.Shape...)
		got, e := Back(c.n, c.in, out, grad)
		if e != api.OK || len(got) != len(c.in) {
			t.Fatalf("%s: Back = %v, %v", op.Name(c.n.Op), got, e)
		}
		for i, x := range c.in {
			for k := range x.Data {
				up, down := value(t, c.n, moved(c.in, i, k, h)), value(t, c.n, moved(c.in, i, k, -h))
				slope := (weighed(up, grad) - weighed(down, grad)) / (2 * h)
				if math.Abs(slope-got[i].Data[k]) > 1e-6 {
					t.Errorf("%s: input %d has %v at %d, want near %v", op.Name(c.n.Op), i, got[i].Data[k], k, slope)
				}
			}
		}
	}
}
