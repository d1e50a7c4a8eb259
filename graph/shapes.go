package graph

import (
	"slices"

	"backstitch/api"
	"backstitch/op"
	"backstitch/shape"
)

// well is graphs that Check found to be well, with the shapes of their leaves.
type well struct {
	graphs []api.Graph
	leaves [][]int
}

// shapes answers those of graph g, from the lowest node on. It wants a g of which Work has no error: Calls are then not too deep to go down.
func (w well) shapes(g int, param []int) ([][]int, api.Errno) {
	var l [][]int
	for _, n := range w.graphs[g].L {
		s, e := w.shape(n, inputs(n, l), param)
		if e != api.OK {
			return nil, e
		}
		l = append(l, s)
	}
	return l, api.OK
}

// shape answers that of n, whose inputs have the shapes in, in a graph whose Param has the shape param.
func (w well) shape(n api.Node, in [][]int, param []int) ([]int, api.Errno) {
	switch n.Op {
	case api.Leaf:
		return slices.Clone(w.leaves[n.No]), api.OK
	case api.Param:
		if !shape.May(param) {
			return nil, api.ErrShape
		}
		return slices.Clone(param), api.OK
	case api.Call:
		return w.last(n.No, in[0])
	}
	return op.Shape(n, in)
}

// last answers the shape of the last node of graph g.
func (w well) last(g int, param []int) ([]int, api.Errno) {
	l, e := w.shapes(g, param)
	if e != api.OK {
		return nil, e
	}
	return l[len(l)-1], api.OK
}

// inputs picks the shapes of n's inputs out of those of the nodes below it.
func inputs(n api.Node, below [][]int) [][]int {
	in := make([][]int, len(n.In))
	for i, at := range n.In {
		in[i] = below[at]
	}
	return in
}
