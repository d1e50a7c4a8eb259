package op

import (
	"slices"

	"backstitch/api"
	"backstitch/shape"
	"backstitch/tensor"
)

// What stands here is reckoned from shapes alone, since a tensor made for its shape's sake would cost all the work of its numbers.

// constShape asks the whole tensor: it may have a shape that may be, and too few numbers for it.
func constShape(n api.Node, _ [][]int) ([]int, api.Errno) {
	if !tensor.May(n.Val) {
		return nil, api.ErrShape
	}
	return slices.Clone(n.Val.Shape), api.OK
}

func twoShape(_ api.Node, in [][]int) ([]int, api.Errno) {
	return shape.Spread(in[0], in[1])
}

func oneShape(_ api.Node, in [][]int) ([]int, api.Errno) {
	if !shape.May(in[0]) {
		return nil, api.ErrShape
	}
	return slices.Clone(in[0]), api.OK
}

func matmulShape(_ api.Node, in [][]int) ([]int, api.Errno) {
	a, b := in[0], in[1]
	if !ofMatrix(a) || !ofMatrix(b) || a[1] != b[0] {
		return nil, api.ErrShape
	}
	s := []int{a[0], b[1]}
	if _, e := shape.Size(s); e != api.OK {
		return nil, e
	}
	return s, api.OK
}

func ofMatrix(s []int) bool {
	return len(s) == 2 && shape.May(s)
}

func sumShape(_ api.Node, in [][]int) ([]int, api.Errno) {
	if !shape.May(in[0]) {
		return nil, api.ErrShape
	}
	return []int{1}, api.OK
}

func broadcastShape(n api.Node, in [][]int) ([]int, api.Errno) {
	if !shape.Into(in[0], n.To) {
		return nil, api.ErrShape
	}
	return slices.Clone(n.To), api.OK
}

// reshapeShape tells of an input that may not be ErrShape, also where its size is past the limit; n.To has Size's own error.
func reshapeShape(n api.Node, in [][]int) ([]int, api.Errno) {
	had, e := shape.Size(in[0])
	if e != api.OK {
		return nil, api.ErrShape
	}
	size, e := shape.Size(n.To)
	if e != api.OK {
		return nil, e
	}
	if size != had {
		return nil, api.ErrSize
	}
	return slices.Clone(n.To), api.OK
}
