package kernel

import (
	"math"

	"backstitch/api"
	"backstitch/real"
)

// ofTwo answers what op does with two numbers; nil, if it is no operator of two.
func ofTwo(op int) func(a, b real.Real) real.Real {
	switch op {
	case api.Add:
		return real.Real.Plus
	case api.Sub:
		return minus
	case api.Mul:
		return real.Real.Times
	case api.Div:
		return over
	}
	return nil
}

// ofOne answers what op does with one number; nil, if it is no operator of one.
func ofOne(op int) func(x float64) float64 {
	switch op {
	case api.Neg:
		return turned
	case api.Exp:
		return math.Exp
	case api.Log:
		return math.Log
	case api.Relu:
		return notBelow
	}
	return nil
}

func minus(a, b real.Real) real.Real { return a - b }

func over(a, b real.Real) real.Real { return a / b }

// turned turns the sign, also of 0, which a difference from 0 would not do.
func turned(x float64) float64 { return -x }

// notBelow lets a NaN through, and has no -0: that is not above 0.
func notBelow(x float64) float64 {
	if x > 0 || math.IsNaN(x) {
		return x
	}
	return 0
}

// paired wants lists of one length.
func paired(x, y []float64, do func(a, b real.Real) real.Real) []float64 {
	l := make([]float64, len(x))
	for i := range l {
		l[i] = float64(do(real.Real(x[i]), real.Real(y[i])))
	}
	return l
}
