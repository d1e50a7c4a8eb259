package op

import (
	"math"
	"testing"

	"backstitch/api"
)

// known is all operators, by the chapter's sentence.
var known = []struct {
	op   int
	name string
	many int
}{
	{api.Leaf, "leaf", 0},
	{api.Const, "const", 0},
	{api.Param, "param", 0},
	{api.Add, "add", 2},
	{api.Sub, "sub", 2},
	{api.Mul, "mul", 2},
	{api.Div, "div", 2},
	{api.Neg, "neg", 1},
	{api.Exp, "exp", 1},
	{api.Log, "log", 1},
	{api.Relu, "relu", 1},
	{api.Matmul, "matmul", 2},
	{api.Sum, "sum", 1},
	{api.Broadcast, "broadcast", 1},
	{api.Reshape, "reshape", 1},
	{api.Call, "call", 1},
}

// unknown is numbers of no operator, the two beside the first and the last one among them.
var unknown = []int{api.Leaf - 1, api.Call + 1, -1, -api.Add, -api.Call, api.Call + 2, 100, 256 + api.Add, 1<<32 + api.Add, math.MaxInt, math.MinInt, math.MinInt + api.Add}

func TestMay(t *testing.T) {
	for _, c := range known {
		if !May(c.op) {
			t.Errorf("May %d = false, want true", c.op)
		}
	}
	for _, op := range unknown {
		if May(op) {
			t.Errorf("May %d = true, want false", op)
		}
	}
}

func TestName(t *testing.T) {
	for _, c := range known {
		if got := Name(c.op); got != c.name {
			t.Errorf("Name %d = %q, want %q", c.op, got, c.name)
		}
	}
	for _, op := range unknown {
		if got := Name(op); got != "" {
			t.Errorf("Name %d = %q, want none", op, got)
		}
	}
}

func TestMany(t *testing.T) {
	for _, c := range known {
		if got := Many(c.op); got != c.many {
			t.Errorf("Many of %s = %d, want %d", c.name, got, c.many)
		}
	}
	for _, op := range unknown {
		if got := Many(op); got != -1 {
			t.Errorf("Many %d = %d, want -1", op, got)
		}
	}
}

// TestAllAreKnown: no operator is left out, and none is there twice.
func TestAllAreKnown(t *testing.T) {
	if len(known) != api.Call-api.Leaf+1 {
		t.Fatalf("%d operators", len(known))
	}
	for i, c := range known {
		if c.op != api.Leaf+i {
			t.Errorf("operator %d stands at %d", c.op, i)
		}
	}
}
