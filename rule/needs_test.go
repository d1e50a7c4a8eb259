package rule

import (
	"math"
	"slices"
	"testing"

	"backstitch/api"
	"backstitch/op"
)

// unknown is numbers of no operator, the two beside the first and the last one among them.
var unknown = []int{api.Leaf - 1, api.Call + 1, -1, -api.Mul, -api.Matmul, -api.Call, api.Call + 2, 99, 256 + api.Mul, 1<<32 + api.Mul, math.MaxInt, math.MinInt, math.MinInt + api.Mul}

func TestNeeds(t *testing.T) {
	for _, c := range []struct {
		op   int
		want bool
	}{
		{api.Leaf, false},
		{api.Const, false},
		{api.Param, false},
		{api.Add, false},
		{api.Sub, false},
		{api.Mul, true},
		{api.Div, true},
		{api.Neg, false},
		{api.Exp, false},
		{api.Log, true},
		{api.Relu, true},
		{api.Matmul, true},
		{api.Sum, false},
		{api.Broadcast, false},
		{api.Reshape, false},
		{api.Call, false},
	} {
		if got := Needs(c.op); got != c.want {
			t.Errorf("Needs of %s = %v, want %v", op.Name(c.op), got, c.want)
		}
	}
}

func TestNeedsOfNoOperator(t *testing.T) {
	for _, op := range unknown {
		if Needs(op) {
			t.Errorf("Needs %d = true, want false", op)
		}
	}
}

// plain is a node of that operator that is well with inputs of shape (2, 2).
func plain(op int) api.Node {
	n := node(op)
	switch op {
	case api.Const:
		n.Val = tens(ints(2, 2), 1, 2, 3, 4)
	case api.Broadcast, api.Reshape:
		n.To = ints(1, 2, 2)
	}
	return n
}

// given is as many tensors of shape (2, 2) as the operator has inputs, all with numbers above 0.
func given(o int) []api.Tensor {
	l := []api.Tensor{}
	for i := range op.Many(o) {
		l = append(l, filled(ints(2, 2), func(k int) float64 { return float64(2 + i + k) }))
	}
	return l
}

// TestNeedsIsWhatBackHears: with other numbers in its inputs alone, an operator's Back changes just if it Needs them.
func TestNeedsIsWhatBackHears(t *testing.T) {
	for _, o := range ruled() {
		n, in := plain(o), given(o)
		out := value(t, n, in)
		grad := filled(out.Shape, func(i int) float64 { return float64(3 + i) })
		want, _ := Back(n, in, out, grad)
		heard := false
		for i := range in {
			l := slices.Clone(in)
			l[i] = tens(ints(2, 2), -9, less, nan, below)
			got, e := Back(n, l, out, grad)
			if e != api.OK || len(got) != len(want) {
				t.Errorf("%s: Back = %v, %v", op.Name(o), got, e)
			}
			heard = heard || !slices.EqualFunc(got, want, same)
		}
		if heard != Needs(o) {
			t.Errorf("%s: Needs = %v, but Back hears its inputs: %v", op.Name(o), Needs(o), heard)
		}
	}
}

// TestOutIsHeardByExpAlone: of an output the others take the shape, and its numbers may be any.
func TestOutIsHeardByExpAlone(t *testing.T) {
	for _, o := range ruled() {
		n, in := plain(o), given(o)
		out := value(t, n, in)
		grad := filled(out.Shape, func(i int) float64 { return float64(3 + i) })
		want, _ := Back(n, in, out, grad)
		strange := filled(out.Shape, func(i int) float64 { return list(nan, inf, less, -9)[i] })
		got, e := Back(n, in, strange, grad)
		if e != api.OK || slices.EqualFunc(got, want, same) == (o == api.Exp) {
			t.Errorf("%s: Back = %v, %v, before %v", op.Name(o), got, e, want)
		}
	}
}
