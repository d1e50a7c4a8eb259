package op

import "backstitch/api"

// names stand in the order of the operators, from Leaf on.
var names = [...]string{
	"leaf", "const", "param",
	"add", "sub", "mul", "div",
	"neg", "exp", "log", "relu",
	"matmul", "sum", "broadcast", "reshape",
	"call",
}

// shaper tells what shape an operator makes of shapes; it wants as many of them as the operator has inputs.
type shaper func(n api.Node, in [][]int) ([]int, api.Errno)

// maker tells what tensor an operator makes of tensors; it wants as many of them as the operator has inputs.
type maker func(n api.Node, in []api.Tensor) (api.Tensor, api.Errno)

// fits tells what is wrong with op and that number of inputs, ahead of what the inputs are.
func fits(op, inputs int) api.Errno {
	if !May(op) || elsewhere(op) {
		return api.ErrOp
	}
	if inputs != Many(op) {
		return api.ErrArg
	}
	return api.OK
}

// elsewhere tells whether op's value comes from beyond its node and its inputs: from a leaf, a caller or another graph.
func elsewhere(op int) bool {
	return op == api.Leaf || op == api.Param || op == api.Call
}

// shapers is the catalogue of shapes: it has a function for each operator that fits lets through.
func shapers() []shaper {
	return []shaper{
		api.Const:     constShape,
		api.Add:       twoShape,
		api.Sub:       twoShape,
		api.Mul:       twoShape,
		api.Div:       twoShape,
		api.Neg:       oneShape,
		api.Exp:       oneShape,
		api.Log:       oneShape,
		api.Relu:      oneShape,
		api.Matmul:    matmulShape,
		api.Sum:       sumShape,
		api.Broadcast: broadcastShape,
		api.Reshape:   reshapeShape,
	}
}

// makers is the catalogue of values: it has a function for each operator that fits lets through.
func makers() []maker {
	return []maker{
		api.Const:     constant,
		api.Add:       two,
		api.Sub:       two,
		api.Mul:       two,
		api.Div:       two,
		api.Neg:       one,
		api.Exp:       one,
		api.Log:       one,
		api.Relu:      one,
		api.Matmul:    matmul,
		api.Sum:       sum,
		api.Broadcast: broadcast,
		api.Reshape:   reshape,
	}
}
