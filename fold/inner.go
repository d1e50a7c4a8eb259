package fold

import (
	"backstitch/api"
	"backstitch/real"
	"backstitch/shape"
	"backstitch/tensor"
)

// vacant tells whether a slot is not filled: it has no numbers then, while a tensor that may be has one at least.
func vacant(t api.Tensor) bool { return len(t.Data) == 0 }

func isOf(s []int, t api.Tensor) bool {
	return tensor.May(t) && shape.Same(t.Shape, s)
}

// folds answers the fold at each place; it wants tensors of one shape, one of them at least.
func folds(l []api.Tensor) []float64 {
	sums := make([]float64, len(l[0].Data))
	there := make([]float64, len(l))
	for i := range sums {
		for k, t := range l {
			there[k] = t.Data[i]
		}
		sums[i] = real.Fold(there)
	}
	return sums
}
