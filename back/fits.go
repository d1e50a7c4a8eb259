package back

import (
	"slices"

	"backstitch/api"
	"backstitch/eval"
	"backstitch/tensor"
)

// forward answers the tensors of the nodes of a's graph, or what is wrong with a, ahead of all going back.
func forward(a Ask) ([]api.Tensor, api.Errno) {
	made, e := eval.All(a.Graphs, a.Leaves, a.Graph, a.Param)
	switch {
	case e != api.OK:
		return nil, e
	case !within(a.Root, len(made)-1), !within(a.Deep, api.MaxDepth), len(a.Stale) != len(a.Leaves):
		return nil, api.ErrArg
	case !tensor.May(a.Seed), !slices.Equal(a.Seed.Shape, made[a.Root].Shape):
		return nil, api.ErrShape
	}
	return made, api.OK
}

// within tells whether n is from 0 to most.
func within(n, most int) bool {
	return n >= 0 && n <= most
}
