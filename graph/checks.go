package graph

import (
	"slices"

	"backstitch/api"
	"backstitch/hook"
	"backstitch/op"
	"backstitch/shape"
	"backstitch/tensor"
)

// check answers what is wrong with node n, which stands at place at.
type check func(at int, n api.Node) api.Errno

// given is what nodes are held against.
type given struct {
	graphs int
	leaves [][]int
}

// checks answers the row in which a node is asked. A check may take it that those ahead of it found nothing.
func (g given) checks() []check {
	return []check{g.operator, g.many, g.param, g.below, g.inside, g.called, g.leaf, g.leafShape, g.value, g.hooks}
}

// first answers the first node of g that is not well, and the first error that the row has of it.
func first(row []check, g api.Graph) (int, api.Errno) {
	if len(g.L) == 0 || len(g.L) > api.MaxNodes {
		return 0, api.ErrLimit
	}
	for at, n := range g.L {
		for _, ask := range row {
			if e := ask(at, n); e != api.OK {
				return at, e
			}
		}
	}
	return 0, api.OK
}

// unless answers e where something is not well.
func unless(fine bool, e api.Errno) api.Errno {
	if fine {
		return api.OK
	}
	return e
}

func (g given) operator(_ int, n api.Node) api.Errno {
	return unless(op.May(n.Op), api.ErrOp)
}

func (g given) many(_ int, n api.Node) api.Errno {
	return unless(len(n.In) == op.Many(n.Op), api.ErrArg)
}

func (g given) param(at int, n api.Node) api.Errno {
	return unless(n.Op != api.Param || at == 0, api.ErrArg)
}

func (g given) below(at int, n api.Node) api.Errno {
	ahead := func(in int) bool { return in >= at }
	return unless(!slices.ContainsFunc(n.In, ahead), api.ErrCycle)
}

func (g given) inside(_ int, n api.Node) api.Errno {
	outside := func(in int) bool { return in < 0 }
	return unless(!slices.ContainsFunc(n.In, outside), api.ErrGraph)
}

func (g given) called(_ int, n api.Node) api.Errno {
	return unless(n.Op != api.Call || within(n.No, g.graphs), api.ErrGraph)
}

func (g given) leaf(_ int, n api.Node) api.Errno {
	return unless(n.Op != api.Leaf || within(n.No, len(g.leaves)), api.ErrLeaf)
}

func (g given) leafShape(_ int, n api.Node) api.Errno {
	return unless(n.Op != api.Leaf || shape.May(g.leaves[n.No]), api.ErrShape)
}

func (g given) value(_ int, n api.Node) api.Errno {
	return unless(n.Op != api.Const || tensor.May(n.Val), api.ErrShape)
}

func (g given) hooks(_ int, n api.Node) api.Errno {
	return unless(hook.May(n.Hooks), api.ErrHook)
}

// within tells whether a list of that many has one of that number.
func within(no, many int) bool {
	return no >= 0 && no < many
}
