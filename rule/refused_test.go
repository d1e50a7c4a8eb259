package rule

import (
	"fmt"
	"testing"

	"backstitch/api"
	"backstitch/op"
)

// some is that many tensors of shape (2, 2).
func some(many int) []api.Tensor {
	l := []api.Tensor{}
	for range many {
		l = append(l, tens(ints(2, 2), 1, 2, 3, 4))
	}
	return l
}

// outOf is an output that fits a plain node of that operator.
func outOf(o int) api.Tensor {
	switch o {
	case api.Sum:
		return tens(ints(1), 5)
	case api.Broadcast, api.Reshape:
		return tens(ints(1, 2, 2), 5, 6, 7, 8)
	}
	return tens(ints(2, 2), 5, 6, 7, 8)
}

// TestPlainIsWell: what the other tests make wrong is well ahead of that.
func TestPlainIsWell(t *testing.T) {
	for _, o := range ruled() {
		got, e := Back(plain(o), some(op.Many(o)), outOf(o), outOf(o))
		if e != api.OK || len(got) != op.Many(o) {
			t.Errorf("%s: Back = %v, %v", op.Name(o), got, e)
		}
		for _, x := range got {
			if len(x.Data) != 4 || len(x.Shape) != 2 {
				t.Errorf("%s: Back = %v", op.Name(o), got)
			}
		}
	}
}

// TestNoRule: ErrOp, ahead of whatever else is wrong.
func TestNoRule(t *testing.T) {
	well, bad := tens(ints(2, 2), 1, 2, 3, 4), tens(ints(0))
	for _, o := range append(ints(api.Leaf, api.Param, api.Call), unknown...) {
		for many := range 4 {
			what := fmt.Sprint("operator ", o, " of ", many)
			refused(t, what, api.Node{Op: o, To: ints(2, 2), Val: well}, some(many), well, well, api.ErrOp)
			in := make([]api.Tensor, many)
			for i := range in {
				in[i] = bad
			}
			refused(t, what, api.Node{Op: o, To: ints(0), Val: bad}, in, bad, bad, api.ErrOp)
		}
	}
	refused(t, "a zero node", api.Node{}, nil, api.Tensor{}, api.Tensor{}, api.ErrOp)
}

// TestNumberOfInputs: ErrArg, ahead of what the inputs, the output and the gradient are.
func TestNumberOfInputs(t *testing.T) {
	for _, o := range ruled() {
		for many := range 5 {
			if many == op.Many(o) {
				continue
			}
			what := fmt.Sprint(op.Name(o), " of ", many)
			refused(t, what, plain(o), some(many), outOf(o), outOf(o), api.ErrArg)
			for _, bad := range wrongTensors() {
				in := make([]api.Tensor, many)
				for i := range in {
					in[i] = bad
				}
				refused(t, what+" wrong ones", plain(o), in, outOf(o), outOf(o), api.ErrArg)
				refused(t, what+" wrong ones", api.Node{Op: o, To: ints(-1), Val: bad}, in, bad, bad, api.ErrArg)
			}
		}
	}
	refused(t, "add of none", node(api.Add), nil, api.Tensor{}, api.Tensor{}, api.ErrArg)
}

// TestInputsThatMayNotBe: ErrShape, at each input, whatever the others and n.To are.
func TestInputsThatMayNotBe(t *testing.T) {
	for _, o := range ruled() {
		for i := range op.Many(o) {
			for _, bad := range wrongTensors() {
				what := fmt.Sprint(op.Name(o), i, bad.Shape, len(bad.Data))
				in := some(op.Many(o))
				in[i] = bad
				refused(t, what, plain(o), in, outOf(o), outOf(o), api.ErrShape)
				refused(t, what, plain(o), in, bad, bad, api.ErrShape)
				refused(t, what, to(o, 4097), in, outOf(o), outOf(o), api.ErrShape)
				refused(t, what, to(o, 3), in, outOf(o), outOf(o), api.ErrShape)
			}
		}
	}
}

// TestInputGoesAheadOfItsShape: an input with too few numbers is ErrShape, also where its shape alone is ErrSize.
func TestInputGoesAheadOfItsShape(t *testing.T) {
	few := func(s ...int) api.Tensor { return tens(s, 1) }
	x := tens(ints(1), 1)
	for _, o := range ints(api.Add, api.Sub, api.Mul, api.Div) {
		refused(t, op.Name(o), node(o), ins(few(64, 1), counted(65)), x, x, api.ErrShape)
		refused(t, op.Name(o), node(o), ins(counted(64, 1), few(65)), x, x, api.ErrShape)
		refused(t, op.Name(o), node(o), ins(counted(64, 1), counted(65)), x, x, api.ErrSize)
	}
	refused(t, "matmul", node(api.Matmul), ins(few(64, 1), counted(1, 65)), x, x, api.ErrShape)
	refused(t, "matmul", node(api.Matmul), ins(counted(64, 1), few(1, 65)), x, x, api.ErrShape)
	refused(t, "matmul", node(api.Matmul), ins(counted(64, 1), counted(1, 65)), x, x, api.ErrSize)
	refused(t, "reshape", to(api.Reshape, 3), ins(few(2)), x, x, api.ErrShape)
	refused(t, "reshape", to(api.Reshape, 3), ins(counted(2)), x, x, api.ErrSize)
}

// TestShapesThatDoNotFit: op.Shape's error, ahead of what the output and the gradient are.
func TestShapesThatDoNotFit(t *testing.T) {
	for _, c := range []struct {
		n    api.Node
		in   []api.Tensor
		want api.Errno
	}{
		{node(api.Add), ins(counted(2), counted(3)), api.ErrShape},
		{node(api.Sub), ins(counted(2, 3), counted(2)), api.ErrShape},
		{node(api.Mul), ins(counted(2, 1), counted(3, 1)), api.ErrShape},
		{node(api.Div), ins(counted(2, 3), counted(3, 2)), api.ErrShape},
		{node(api.Add), ins(counted(2, 64, 1), counted(3, 1, 64)), api.ErrShape}, // unlike, and too great
		{node(api.Add), ins(counted(4096), counted(2, 1)), api.ErrSize},
		{node(api.Sub), ins(counted(17, 1), counted(241)), api.ErrSize},
		{node(api.Mul), ins(counted(65), counted(64, 1)), api.ErrSize},
		{node(api.Div), ins(counted(4096, 1), counted(4096)), api.ErrSize},
		{node(api.Matmul), ins(counted(2), counted(2)), api.ErrShape},
		{node(api.Matmul), ins(counted(2, 2), counted(2)), api.ErrShape},
		{node(api.Matmul), ins(counted(1, 2, 2), counted(2, 2)), api.ErrShape},
		{node(api.Matmul), ins(counted(2, 3), counted(2, 3)), api.ErrShape},
		{node(api.Matmul), ins(counted(2, 1), counted(2, 3)), api.ErrShape}, // no broadcast
		{node(api.Matmul), ins(counted(17, 1), counted(1, 241)), api.ErrSize},
		{node(api.Matmul), ins(counted(4096, 1), counted(1, 4096)), api.ErrSize},
		{to(api.Broadcast, 3), ins(counted(2)), api.ErrShape},
		{to(api.Broadcast), ins(counted(1)), api.ErrShape}, // not to fewer places
		{to(api.Broadcast, 2, 3), ins(counted(2)), api.ErrShape},
		{to(api.Broadcast, 0), ins(counted(1)), api.ErrShape},
		{to(api.Broadcast, 4097), ins(counted(1)), api.ErrShape},
		{to(api.Broadcast, 1, 1, 1, 1, 1), ins(counted(1)), api.ErrShape},
		{to(api.Reshape, 3), ins(counted(2)), api.ErrSize},
		{to(api.Reshape), ins(counted(2)), api.ErrSize},
		{to(api.Reshape, 4097), ins(counted(4096)), api.ErrSize},
		{to(api.Reshape, 0), ins(counted(1)), api.ErrShape},
		{to(api.Reshape, -1, -1), ins(counted(1)), api.ErrShape},
		{to(api.Reshape, 1, 1, 1, 1, 1), ins(counted(1)), api.ErrShape},
	} {
		outs := append(wrongTensors(), tens(nil, 1), c.in[0])
		if len(c.n.To) > 0 {
			outs = append(outs, tens(c.n.To, 1))
		}
		for _, x := range outs {
			refused(t, fmt.Sprint(op.Name(c.n.Op), c.in[0].Shape, c.n.To, x.Shape), c.n, c.in, x, x, c.want)
		}
	}
}

// TestConstThatMayNotBe: op.Shape tells ErrShape, whatever is wrong with it.
func TestConstThatMayNotBe(t *testing.T) {
	for _, bad := range wrongTensors() {
		refused(t, fmt.Sprint("const ", bad.Shape, len(bad.Data)), with(bad), nil, bad, bad, api.ErrShape)
		refused(t, fmt.Sprint("const ", bad.Shape, len(bad.Data)), with(bad), nil, tens(ints(2), 1, 2), tens(ints(2), 1, 2), api.ErrShape)
	}
}

// otherThan is tensors that may be, of shapes that are not s, those that are broadcast to s or have its size among them.
func otherThan(s []int) []api.Tensor {
	l := []api.Tensor{}
	for _, r := range [][]int{nil, ints(1), ints(2), ints(1, 1), ints(4), ints(2, 1), ints(1, 2), ints(1, 4), ints(2, 2), ints(1, 2, 2), ints(2, 2, 1), ints(1, 1, 2, 2), ints(3, 2), ints(2, 3), ints(4096)} {
		if fmt.Sprint(r) != fmt.Sprint(s) {
			l = append(l, counted(r...))
		}
	}
	return l
}

// TestOutAndGrad: ErrShape, if one of them may not be, or has another shape than what comes of the inputs, be the other one well or not.
func TestOutAndGrad(t *testing.T) {
	for _, o := range ruled() {
		well, in := outOf(o), some(op.Many(o))
		for _, bad := range append(wrongTensors(), otherThan(well.Shape)...) {
			what := fmt.Sprint(op.Name(o), bad.Shape, len(bad.Data))
			refused(t, what+" as output", plain(o), in, bad, well, api.ErrShape)
			refused(t, what+" as gradient", plain(o), in, well, bad, api.ErrShape)
			refused(t, what+" as both", plain(o), in, bad, bad, api.ErrShape)
		}
		few := api.Tensor{Shape: well.Shape, Data: well.Data[1:]}
		many := api.Tensor{Shape: well.Shape, Data: append(list(9), well.Data...)}
		for _, bad := range ins(few, many) {
			refused(t, op.Name(o)+" as output", plain(o), in, bad, well, api.ErrShape)
			refused(t, op.Name(o)+" as gradient", plain(o), in, well, bad, api.ErrShape)
		}
	}
}

// TestOutAndGradOfBroadcastInputs: their shape is the one to which both are broadcast, not that of an input.
func TestOutAndGradOfBroadcastInputs(t *testing.T) {
	a, b, wide := counted(2, 1), counted(3), counted(2, 3)
	for _, o := range ints(api.Add, api.Sub, api.Mul, api.Div) {
		for _, bad := range ins(a, b, counted(3, 2), counted(6), counted(1, 2, 3)) {
			refused(t, op.Name(o), node(o), ins(a, b), bad, wide, api.ErrShape)
			refused(t, op.Name(o), node(o), ins(a, b), wide, bad, api.ErrShape)
		}
		if l, e := Back(node(o), ins(a, b), wide, wide); e != api.OK || len(l) != 2 {
			t.Errorf("%s: Back = %v, %v", op.Name(o), l, e)
		}
	}
}

// TestOnePastTheLimit: an input, an output or a gradient past the limit may not be.
func TestOnePastTheLimit(t *testing.T) {
	past := counted(4097)
	for _, o := range ints(api.Neg, api.Exp, api.Log, api.Relu) {
		refused(t, op.Name(o), node(o), ins(past), past, past, api.ErrShape)
	}
	for _, o := range ints(api.Add, api.Sub, api.Mul, api.Div) {
		refused(t, op.Name(o), node(o), ins(past, past), past, past, api.ErrShape)
		refused(t, op.Name(o), node(o), ins(counted(64, 1), counted(65)), counted(64, 65), counted(64, 65), api.ErrSize)
	}
	refused(t, "matmul", node(api.Matmul), ins(counted(64, 2), counted(2, 65)), counted(64, 65), counted(64, 65), api.ErrSize)
	refused(t, "sum", node(api.Sum), ins(past), tens(ints(1), 1), tens(ints(1), 1), api.ErrShape)
	refused(t, "broadcast", to(api.Broadcast, 4097), ins(tens(nil, 1)), past, past, api.ErrShape)
	refused(t, "reshape", to(api.Reshape, 4097), ins(counted(4096)), past, past, api.ErrSize)
	refused(t, "const", with(past), nil, past, past, api.ErrShape)
}
