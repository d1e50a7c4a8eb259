package eval

import (
	"slices"

	"backstitch/api"
	"backstitch/graph"
	"backstitch/tensor"
)

// fits answers what is wrong with what All is given, ahead of all reckoning.
func fits(l []api.Graph, leaves []api.Tensor, g int, param api.Tensor) api.Errno {
	if slices.ContainsFunc(leaves, wrong) {
		return api.ErrLeaf
	}
	if _, e := graph.Shapes(l, shapes(leaves), g, param.Shape); e != api.OK {
		return e
	}
	// Shapes asked the shape alone, behind which there may be too few numbers, or too many. It found nothing, so that there is a graph g, and a node 0 in it.
	if l[g].L[0].Op == api.Param && wrong(param) {
		return api.ErrShape
	}
	return api.OK
}

// wrong tells whether t may not be a tensor.
func wrong(t api.Tensor) bool { return !tensor.May(t) }

// shapes answers those of tensors.
func shapes(l []api.Tensor) [][]int {
	all := make([][]int, len(l))
	for i, t := range l {
		all[i] = t.Shape
	}
	return all
}
