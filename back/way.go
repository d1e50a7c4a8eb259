package back

import (
	"backstitch/api"
	"backstitch/hook"
	"backstitch/reach"
)

// way is one way down through a graph, from its root on.
type way struct {
	ask     Ask
	nodes   []api.Node
	made    []api.Tensor   // what each node is, forward
	reached []bool         // of each node, whether the root hears of it
	users   [][]reach.Use  // of each node
	given   [][]api.Tensor // what each node that was gone through gives to its inputs
	leaf    []terms        // what comes to each leaf
	param   api.Tensor     // what comes to the Param; no tensor, if it was not gone through
}

// begun answers the way of a, ahead of its first step; made is what the nodes of its graph are.
func begun(a Ask, made []api.Tensor) *way {
	g := a.Graphs[a.Graph]
	return &way{
		ask:     a,
		nodes:   g.L,
		made:    made,
		reached: reach.From(g, a.Root),
		users:   reach.Users(g, a.Root),
		given:   make([][]api.Tensor, len(g.L)),
		leaf:    make([]terms, len(a.Leaves)),
	}
}

// down goes from the greatest node that is reached to the least, as far as the first that fails: that is the greatest one.
func (w *way) down() (int, api.Errno) {
	for at := w.ask.Root; at >= 0; at-- {
		if !w.reached[at] {
			continue
		}
		if e := w.through(at); e != api.OK {
			return at, e
		}
	}
	return 0, api.OK
}

// through goes through one node. All its users stand above it, and have given what they give.
func (w *way) through(at int) api.Errno {
	n := w.nodes[at]
	grad, e := hook.Do(n.Hooks, w.coming(at))
	if e != api.OK {
		return e
	}
	w.given[at], e = w.ruleOf(n.Op)(at, grad)
	return e
}

// coming answers what comes to a node, ahead of its hooks.
func (w *way) coming(at int) api.Tensor {
	if at == w.ask.Root {
		return w.ask.Seed
	}
	var l []api.Tensor
	for _, u := range w.users[at] {
		l = append(l, w.given[u.Node][u.Slot])
	}
	return tree(l)
}

// gradient answers what came to the leaves and to the Param. It wants all to have been gone through.
func (w *way) gradient() Gradient {
	g := Gradient{Leaf: make([]api.Tensor, len(w.leaf)), Param: w.param}
	for i, l := range w.leaf {
		g.Leaf[i] = l.sum(w.ask.Leaves[i])
	}
	if w.nodes[0].Op == api.Param && vacant(g.Param) {
		g.Param = noughts(w.ask.Param)
	}
	return g
}
