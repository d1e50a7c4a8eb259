package op

import (
	"fmt"
	"testing"

	"backstitch/api"
)

// valued is the operators that have a value here.
func valued() []int {
	var l []int
	for op := api.Leaf; op <= api.Call; op++ {
		if op != api.Leaf && op != api.Param && op != api.Call {
			l = append(l, op)
		}
	}
	return l
}

// plain is a node of that operator that is well with inputs of one number each.
func plain(op int) api.Node {
	n := node(op)
	switch op {
	case api.Const:
		n.Val = tens(ints(1, 1), 1)
	case api.Broadcast, api.Reshape:
		n.To = ints(1, 1)
	}
	return n
}

// some is that many tensors of shape (1, 1).
func some(many int) []api.Tensor {
	var l []api.Tensor
	for range many {
		l = append(l, tens(ints(1, 1), 1))
	}
	return l
}

// TestNoOperatorHere: ErrOp, ahead of whatever else is wrong.
func TestNoOperatorHere(t *testing.T) {
	for _, op := range append(ints(api.Leaf, api.Param, api.Call), unknown...) {
		for many := range 4 {
			what := fmt.Sprint("operator ", op, " of ", many)
			refused(t, what, node(op), some(many), api.ErrOp)
			n := api.Node{Op: op, To: ints(1, 1), Val: tens(nil, 1)}
			refused(t, what, n, some(many), api.ErrOp)
			wrong := make([]api.Tensor, many)
			for i := range wrong {
				wrong[i] = tens(ints(0))
			}
			refused(t, what, api.Node{Op: op, To: ints(0), Val: tens(ints(2), 1)}, wrong, api.ErrOp)
		}
		refusedValue(t, fmt.Sprint("operator ", op), node(op), nil, api.ErrOp)
		refusedShape(t, fmt.Sprint("operator ", op), node(op), nil, api.ErrOp)
	}
}

// TestNumberOfInputs: ErrArg, ahead of what the inputs are; as many as the operator has are taken.
func TestNumberOfInputs(t *testing.T) {
	for _, op := range valued() {
		for many := range 5 {
			what := fmt.Sprint(Name(op), " of ", many)
			if many != Many(op) {
				refused(t, what, plain(op), some(many), api.ErrArg)
				continue
			}
			if _, e := Value(plain(op), some(many)); e != api.OK {
				t.Errorf("%s: Value tells %v", what, e)
			}
			if _, e := Shape(plain(op), shapesOf(some(many))); e != api.OK {
				t.Errorf("%s: Shape tells %v", what, e)
			}
		}
	}
}

// TestNumberOfInputsGoesFirst: where inputs, n.To or n.Val are wrong too, it is ErrArg.
func TestNumberOfInputsGoesFirst(t *testing.T) {
	for _, op := range valued() {
		for many := range 5 {
			if many == Many(op) {
				continue
			}
			for _, bad := range []api.Tensor{tens(ints(0)), tens(ints(2, 3), 1), counted(4097)} {
				in := make([]api.Tensor, many)
				for i := range in {
					in[i] = bad
				}
				n := api.Node{Op: op, To: ints(-1), Val: bad}
				refused(t, fmt.Sprint(Name(op), " of ", many, bad.Shape), n, in, api.ErrArg)
			}
		}
	}
}

// TestConstThatMayNotBe: ErrShape, whatever is wrong with it.
func TestConstThatMayNotBe(t *testing.T) {
	for _, x := range wrongTensors() {
		refused(t, fmt.Sprint("const ", x.Shape, len(x.Data)), with(x), nil, api.ErrShape)
	}
}

// TestTensorsThatMayNotBe: ErrShape of each operator, at each of its inputs.
func TestTensorsThatMayNotBe(t *testing.T) {
	for _, op := range valued() {
		for i := range Many(op) {
			for _, x := range wrongTensors() {
				in := some(Many(op))
				in[i] = x
				refusedValue(t, fmt.Sprint(Name(op), i, x.Shape, len(x.Data)), plain(op), in, api.ErrShape)
			}
			in := some(Many(op))
			for k := range in {
				in[k] = counted(4097)
			}
			refused(t, Name(op)+" past the limit", plain(op), in, api.ErrShape)
		}
	}
}

// TestShapesThatMayNotBe: ErrShape of each operator, at each of its inputs.
func TestShapesThatMayNotBe(t *testing.T) {
	for _, op := range valued() {
		for i := range Many(op) {
			for _, s := range wrongShapes() {
				in := shapesOf(some(Many(op)))
				in[i] = s
				refusedShape(t, fmt.Sprint(Name(op), i, s), plain(op), in, api.ErrShape)
			}
		}
	}
}

// TestInputGoesFirst: an input that may not be is told ahead of what n.To is.
func TestInputGoesFirst(t *testing.T) {
	for _, x := range wrongTensors() {
		for _, s := range append(wrongShapes(), nil, ints(1), ints(2), ints(4096)) {
			for _, op := range ints(api.Broadcast, api.Reshape) {
				refusedValue(t, fmt.Sprint(Name(op), x.Shape, s), to(op, s...), ins(x), api.ErrShape)
			}
		}
	}
	for _, r := range wrongShapes() {
		for _, s := range append(wrongShapes(), nil, ints(1), ints(2), ints(4096)) {
			for _, op := range ints(api.Broadcast, api.Reshape) {
				refusedShape(t, fmt.Sprint(Name(op), r, s), to(op, s...), [][]int{r}, api.ErrShape)
			}
		}
	}
}

func TestShapesThatDoNotFit(t *testing.T) {
	for _, c := range []struct {
		n    api.Node
		in   []api.Tensor
		want api.Errno
	}{
		{node(api.Add), ins(counted(2), counted(3)), api.ErrShape},
		{node(api.Sub), ins(counted(2, 3), counted(2)), api.ErrShape},
		{node(api.Mul), ins(counted(2, 1), counted(3, 1)), api.ErrShape},
		{node(api.Div), ins(counted(2, 3), counted(3, 2)), api.ErrShape},
		{node(api.Add), ins(counted(2, 64, 1), counted(3, 1, 64)), api.ErrShape}, // unlike, and too great
		{node(api.Matmul), ins(counted(2), counted(2)), api.ErrShape},
		{node(api.Matmul), ins(counted(2, 2), counted(2)), api.ErrShape},
		{node(api.Matmul), ins(counted(2), counted(2, 2)), api.ErrShape},
		{node(api.Matmul), ins(tens(nil, 1), tens(nil, 1)), api.ErrShape},
		{node(api.Matmul), ins(counted(1, 2, 2), counted(2, 2)), api.ErrShape},
		{node(api.Matmul), ins(counted(2, 2), counted(2, 2, 1)), api.ErrShape},
		{node(api.Matmul), ins(counted(2, 3), counted(2, 3)), api.ErrShape},
		{node(api.Matmul), ins(counted(2, 1), counted(2, 3)), api.ErrShape}, // no broadcast
		{node(api.Matmul), ins(counted(4096, 1), counted(2, 2048)), api.ErrShape},
		{to(api.Broadcast, 3), ins(counted(2)), api.ErrShape},
		{to(api.Broadcast, 1), ins(counted(2)), api.ErrShape},
		{to(api.Broadcast), ins(counted(1)), api.ErrShape}, // not to fewer places
		{to(api.Broadcast, 2), ins(counted(1, 2)), api.ErrShape},
		{to(api.Broadcast, 2, 3), ins(counted(2)), api.ErrShape},
		{to(api.Reshape, 3), ins(counted(2)), api.ErrSize},
		{to(api.Reshape), ins(counted(2)), api.ErrSize},
		{to(api.Reshape, 2), ins(tens(nil, 1)), api.ErrSize},
		{to(api.Reshape, 2), ins(counted(1)), api.ErrSize}, // no broadcast
		{to(api.Reshape, 2, 2), ins(counted(6)), api.ErrSize},
		{to(api.Reshape, 4095), ins(counted(4096)), api.ErrSize},
	} {
		refused(t, fmt.Sprint(Name(c.n.Op), shapesOf(c.in), c.n.To), c.n, c.in, c.want)
	}
}

// TestWrongTo: a shape n.To that may not be: of Broadcast it is ErrShape, of Reshape Size's own error.
func TestWrongTo(t *testing.T) {
	shapeAlone := 10 // of the first ones a number is wrong, the others are too great
	for i, s := range wrongShapes() {
		want := api.ErrShape
		if i >= shapeAlone {
			want = api.ErrSize
		}
		for _, a := range []api.Tensor{tens(nil, 1), counted(1), counted(6), counted(4096)} {
			refused(t, fmt.Sprint("broadcast ", a.Shape, s), to(api.Broadcast, s...), ins(a), api.ErrShape)
			refused(t, fmt.Sprint("reshape ", a.Shape, s), to(api.Reshape, s...), ins(a), want)
		}
	}
}
