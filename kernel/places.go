package kernel

import (
	"backstitch/api"
	"backstitch/real"
	"backstitch/shape"
)

// spread answers a's numbers broadcast to s; it wants a's shape to be Into s.
func spread(a api.Tensor, s []int) []float64 {
	from := sources(a.Shape, s)
	l := make([]float64, len(from))
	for i, j := range from {
		l[i] = a.Data[j]
	}
	return l
}

// sources answers, for each number of shape to in the order of their Index, the Index of the number of shape from that falls on it. It wants from to be Into to.
func sources(from, to []int) []int {
	l := []int{0}
	for k, step := range steps(from, to) {
		l = onward(l, to[k], step)
	}
	return l
}

// steps answers how far one goes in shape from when one goes on by one at each place of to: nowhere, where from has no number or a 1.
func steps(from, to []int) []int {
	l := make([]int, len(to))
	lead := len(to) - len(from)
	for k, step := range shape.Strides(from) {
		if from[k] != 1 {
			l[lead+k] = step
		}
	}
	return l
}

// onward answers, for each of l in turn, it and what follows it by steps, n in all.
func onward(l []int, n, step int) []int {
	all := make([]int, 0, n*len(l))
	for _, i := range l {
		for k := range n {
			all = append(all, i+k*step)
		}
	}
	return all
}

// gathered answers the folds of a's numbers at each place of s; it wants s to be Into a's shape.
// Each fold then has as many numbers, so that all of them find room in one list, one fold behind another.
func gathered(a api.Tensor, s []int) []float64 {
	size, _ := shape.Size(s)
	many := len(a.Data) / size
	rows, filled := make([]float64, len(a.Data)), make([]int, size)
	for i, j := range sources(s, a.Shape) {
		rows[j*many+filled[j]] = a.Data[i]
		filled[j]++
	}
	folds := make([]float64, size)
	for j := range folds {
		folds[j] = real.Fold(rows[j*many : (j+1)*many])
	}
	return folds
}
