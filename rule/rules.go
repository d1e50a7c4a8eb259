package rule

import (
	"backstitch/api"
	"backstitch/kernel"
)

// pass is one way back through an operator; all its tensors fit.
type pass struct {
	in        []api.Tensor
	out, grad api.Tensor
}

// rule answers what goes back to all inputs.
type rule func(p pass) ([]api.Tensor, api.Errno)

// part answers what goes back to one input, ahead of the Gather to its shape. It may be a tensor that was handed in.
// Where all fits there is no error for it to tell; a zero Tensor, were there one, would be refused by that Gather.
type part func(p pass) api.Tensor

// parts is what goes back, input by input.
type parts []part

// back is the rule that these parts make: be there one input or two, Gather comes last, and makes each tensor's memory its own.
func (l parts) back(p pass) ([]api.Tensor, api.Errno) {
	given := make([]api.Tensor, len(l))
	for i, do := range l {
		t, e := kernel.Gather(do(p), p.in[i].Shape)
		if e != api.OK {
			return nil, e
		}
		given[i] = t
	}
	return given, api.OK
}

// ruleOf answers op's rule; nil, if it has none.
func ruleOf(op int) rule {
	switch op {
	case api.Const:
		return parts{}.back
	case api.Add:
		return parts{pass.whole, pass.whole}.back
	case api.Sub:
		return parts{pass.whole, pass.turned}.back
	case api.Mul:
		return parts{pass.timesSecond, pass.timesFirst}.back
	case api.Div:
		return parts{pass.overSecond, pass.toDivisor}.back
	case api.Neg:
		return parts{pass.turned}.back
	case api.Exp:
		return parts{pass.timesOut}.back
	case api.Log:
		return parts{pass.overFirst}.back
	case api.Relu:
		return parts{pass.whereAbove}.back
	case api.Matmul:
		return parts{pass.toRows, pass.toColumns}.back
	case api.Sum:
		return parts{pass.everywhere}.back
	case api.Broadcast:
		return parts{pass.whole}.back
	case api.Reshape:
		return parts{pass.reshaped}.back
	}
	return nil
}
