package op

import (
	"backstitch/api"
	"backstitch/kernel"
	"backstitch/matrix"
	"backstitch/tensor"
)

// constant asks May ahead of Of, which would tell other errors of a tensor that may not be.
func constant(n api.Node, _ []api.Tensor) (api.Tensor, api.Errno) {
	if !tensor.May(n.Val) {
		return api.Tensor{}, api.ErrShape
	}
	return tensor.Of(n.Val.Shape, n.Val.Data)
}

func two(n api.Node, in []api.Tensor) (api.Tensor, api.Errno) {
	return kernel.Two(n.Op, in[0], in[1])
}

func one(n api.Node, in []api.Tensor) (api.Tensor, api.Errno) {
	return kernel.One(n.Op, in[0])
}

func matmul(_ api.Node, in []api.Tensor) (api.Tensor, api.Errno) {
	return matrix.Mul(in[0], in[1])
}

func sum(_ api.Node, in []api.Tensor) (api.Tensor, api.Errno) {
	return matrix.Sum(in[0])
}

func broadcast(n api.Node, in []api.Tensor) (api.Tensor, api.Errno) {
	return kernel.Spread(in[0], n.To)
}

func reshape(n api.Node, in []api.Tensor) (api.Tensor, api.Errno) {
	return kernel.Reshape(in[0], n.To)
}
