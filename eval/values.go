package eval

import (
	"backstitch/api"
	"backstitch/op"
	"backstitch/tensor"
)

// well is graphs and leaves of which fits found nothing wrong.
type well struct {
	graphs []api.Graph
	leaves []api.Tensor
}

// tensors answers those of graph g, from the lowest node on. It wants a g of which fits found nothing wrong, or one that such a graph Calls: Calls are then not too deep to go down.
func (w well) tensors(g int, param api.Tensor) ([]api.Tensor, api.Errno) {
	nodes := w.graphs[g].L
	l := make([]api.Tensor, 0, len(nodes))
	for _, n := range nodes {
		t, e := w.value(n, inputs(n, l), param)
		if e != api.OK {
			return nil, e
		}
		l = append(l, t)
	}
	return l, api.OK
}

// value answers the tensor of n, whose inputs are in, in a graph whose Param is param. What is there already is copied, since each node's tensor is to be memory of its own.
func (w well) value(n api.Node, in []api.Tensor, param api.Tensor) (api.Tensor, api.Errno) {
	switch n.Op {
	case api.Leaf:
		return copied(w.leaves[n.No])
	case api.Param:
		return copied(param)
	case api.Call:
		return w.last(n.No, in[0])
	}
	return op.Value(n, in)
}

// last answers the tensor of the last node of graph g; those of the others are let go.
func (w well) last(g int, param api.Tensor) (api.Tensor, api.Errno) {
	l, e := w.tensors(g, param)
	if e != api.OK {
		return api.Tensor{}, e
	}
	return l[len(l)-1], api.OK
}

// copied answers t in memory of its own.
func copied(t api.Tensor) (api.Tensor, api.Errno) {
	return tensor.Of(t.Shape, t.Data)
}

// inputs picks the tensors of n's inputs out of those of the nodes below it.
func inputs(n api.Node, below []api.Tensor) []api.Tensor {
	in := make([]api.Tensor, len(n.In))
	for i, at := range n.In {
		in[i] = below[at]
	}
	return in
}
