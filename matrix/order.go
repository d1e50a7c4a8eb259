package matrix

import (
	"backstitch/api"
	"backstitch/real"
	"backstitch/tensor"
)

// may tells whether a may be a matrix.
func may(a api.Tensor) bool {
	return tensor.May(a) && len(a.Shape) == 2
}

// byColumns answers a's numbers, one column behind another; it wants a matrix.
func byColumns(a api.Tensor) []float64 {
	rows, columns := a.Shape[0], a.Shape[1]
	l := make([]float64, 0, len(a.Data))
	for c := range columns {
		for r := range rows {
			l = append(l, a.Data[r*columns+c])
		}
	}
	return l
}

// multiplied answers the numbers of a by b, row by row; it wants matrices that fit.
func multiplied(a, b api.Tensor) []float64 {
	rows, columns := a.Shape[0], b.Shape[1]
	inner := a.Shape[1]
	downB := byColumns(b)
	products := make([]float64, inner)
	l := make([]float64, 0, rows*columns)
	for r := range rows {
		row := a.Data[r*inner : (r+1)*inner]
		for c := range columns {
			times(products, row, downB[c*inner:(c+1)*inner])
			l = append(l, real.Row(products))
		}
	}
	return l
}

// times writes into products each number of x times that of y; it wants lists of one length.
// All products are rounded and laid down ahead of the first sum: none of them and a sum become one step.
func times(products, x, y []float64) {
	for i := range products {
		products[i] = float64(real.Real(x[i]).Times(real.Real(y[i])))
	}
}
