package back

import (
	"slices"

	"backstitch/api"
	"backstitch/fold"
	"backstitch/tensor"
)

// terms is what comes to one leaf, by the nodes from which it comes, the greatest first.
// A term without numbers stands for noughts: each Call gives something to each leaf, noughts to most of them, and to make all these would take much room.
type terms []api.Tensor

// sum answers the tree of all terms, for a leaf; no numbers, where that is noughts.
func (l terms) sum(leaf api.Tensor) api.Tensor {
	if !slices.ContainsFunc(l, told) {
		return api.Tensor{}
	}
	// Noughts have their places in the tree: they change how it is rounded, and turn a -0 into 0.
	whole, none := slices.Clone(l), noughts(leaf)
	for i, t := range whole {
		if vacant(t) {
			whole[i] = none
		}
	}
	return tree(whole)
}

// tree wants tensors of one shape, and one of them at least, so that fold has no error to tell.
func tree(l []api.Tensor) api.Tensor {
	t, _ := fold.Tree(l)
	return t
}

// vacant tells whether t is without numbers, as no tensor is that may be.
func vacant(t api.Tensor) bool { return len(t.Data) == 0 }

func told(t api.Tensor) bool { return !vacant(t) }

// noughts answers as many as like has, in its shape; it wants a like that may be.
func noughts(like api.Tensor) api.Tensor {
	t, _ := tensor.New(like.Shape, 0)
	return t
}
