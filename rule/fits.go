package rule

import (
	"slices"

	"backstitch/api"
	"backstitch/op"
	"backstitch/tensor"
)

// fits tells what is wrong with the tensors of n, whose operator has a rule.
func fits(n api.Node, in []api.Tensor, out, grad api.Tensor) api.Errno {
	if len(in) != op.Many(n.Op) {
		return api.ErrArg
	}
	// Asked ahead of op.Shape, which sees no numbers and may have another error to tell.
	if slices.ContainsFunc(in, mayNot) {
		return api.ErrShape
	}
	s, e := op.Shape(n, shapesOf(in))
	if e != api.OK {
		return e
	}
	if !isOf(s, out) || !isOf(s, grad) {
		return api.ErrShape
	}
	return api.OK
}

func mayNot(t api.Tensor) bool { return !tensor.May(t) }

func isOf(s []int, t api.Tensor) bool {
	return tensor.May(t) && slices.Equal(t.Shape, s)
}

// shapesOf hands the inputs' own shapes on: op.Shape neither changes nor keeps them.
func shapesOf(in []api.Tensor) [][]int {
	l := make([][]int, len(in))
	for i, t := range in {
		l[i] = t.Shape
	}
	return l
}
