package tensor

import (
	"math"
	"slices"

	"backstitch/api"
)

// copied answers t in memory of its own.
func copied(t api.Tensor) api.Tensor {
	return api.Tensor{Shape: slices.Clone(t.Shape), Data: slices.Clone(t.Data)}
}

// mapped writes over own's numbers, from the first on: the caller hands in a copy, so that an f that changes the lists it came from is not heard.
// It catches f's panic, since no call may panic whatever f is: no number is known then, and the answer is none at all.
func mapped(own api.Tensor, f func(float64) float64) (answer api.Tensor) {
	defer func() {
		if recover() != nil {
			answer = api.Tensor{}
		}
	}()
	for i, x := range own.Data {
		own.Data[i] = f(x)
	}
	return own
}

func endless(x float64) bool { return math.IsNaN(x) || math.IsInf(x, 0) }
