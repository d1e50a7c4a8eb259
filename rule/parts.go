package rule

import (
	"backstitch/api"
	"backstitch/kernel"
	"backstitch/matrix"
	"backstitch/tensor"
)

func (p pass) whole() api.Tensor { return p.grad }

func (p pass) turned() api.Tensor { return negative(p.grad) }

func (p pass) timesFirst() api.Tensor { return two(api.Mul, p.grad, p.in[0]) }

func (p pass) timesSecond() api.Tensor { return two(api.Mul, p.grad, p.in[1]) }

func (p pass) timesOut() api.Tensor { return two(api.Mul, p.grad, p.out) }

func (p pass) overFirst() api.Tensor { return two(api.Div, p.grad, p.in[0]) }

func (p pass) overSecond() api.Tensor { return two(api.Div, p.grad, p.in[1]) }

// toDivisor keeps to this order of products and quotients: another one would be rounded otherwise.
func (p pass) toDivisor() api.Tensor {
	b := p.in[1]
	return negative(two(api.Div, p.timesFirst(), two(api.Mul, b, b)))
}

// whereAbove chooses and does not multiply: 0 times an infinity or a NaN is no 0.
func (p pass) whereAbove() api.Tensor {
	l := make([]float64, len(p.grad.Data))
	for i, x := range p.in[0].Data {
		if x > 0 {
			l[i] = p.grad.Data[i]
		}
	}
	return api.Tensor{Shape: p.grad.Shape, Data: l}
}

func (p pass) toRows() api.Tensor {
	b, _ := matrix.Turn(p.in[1])
	return product(p.grad, b)
}

func (p pass) toColumns() api.Tensor {
	a, _ := matrix.Turn(p.in[0])
	return product(a, p.grad)
}

// everywhere does not broadcast: a's shape may have no place, and grad's has one.
func (p pass) everywhere() api.Tensor {
	t, _ := tensor.New(p.in[0].Shape, p.grad.Data[0])
	return t
}

func (p pass) reshaped() api.Tensor {
	t, _ := kernel.Reshape(p.grad, p.in[0].Shape)
	return t
}

func negative(a api.Tensor) api.Tensor {
	t, _ := kernel.One(api.Neg, a)
	return t
}

func two(op int, a, b api.Tensor) api.Tensor {
	t, _ := kernel.Two(op, a, b)
	return t
}

func product(a, b api.Tensor) api.Tensor {
	t, _ := matrix.Mul(a, b)
	return t
}
