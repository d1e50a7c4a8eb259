package back

import (
	"slices"

	"backstitch/api"
	"backstitch/rule"
)

// step answers what a node, whose gradient is grad, gives to its inputs.
type step func(at int, grad api.Tensor) ([]api.Tensor, api.Errno)

// ruleOf answers the step of op's nodes.
func (w *way) ruleOf(op int) step {
	switch op {
	case api.Leaf:
		return w.toLeaf
	case api.Param:
		return w.toParam
	case api.Call:
		return w.toGraph
	}
	return w.toInputs
}

func (w *way) toLeaf(at int, grad api.Tensor) ([]api.Tensor, api.Errno) {
	no := w.nodes[at].No
	w.leaf[no] = append(w.leaf[no], grad)
	return nil, api.OK
}

// toParam adds nothing: a graph has one Param at most.
func (w *way) toParam(_ int, grad api.Tensor) ([]api.Tensor, api.Errno) {
	w.param = grad
	return nil, api.OK
}

// toGraph goes down through the graph that is Called.
func (w *way) toGraph(at int, grad api.Tensor) ([]api.Tensor, api.Errno) {
	if w.ask.Deep == 0 {
		return nil, api.ErrDepth
	}
	in := w.made[w.nodes[at].In[0]]
	g := run(w.inner(w.nodes[at].No, in, grad))
	if g.Err != api.OK {
		return nil, g.Err
	}
	for i, t := range g.Leaf {
		w.leaf[i] = append(w.leaf[i], t)
	}
	if vacant(g.Param) {
		g.Param = noughts(in)
	}
	return []api.Tensor{g.Param}, api.OK
}

// inner answers what is asked of graph g where it is Called: its root is its last node.
func (w *way) inner(g int, param, seed api.Tensor) Ask {
	a := w.ask
	a.Graph, a.Root = g, len(a.Graphs[g].L)-1
	a.Param, a.Seed = param, seed
	a.Deep--
	return a
}

func (w *way) toInputs(at int, grad api.Tensor) ([]api.Tensor, api.Errno) {
	n := w.nodes[at]
	if rule.Needs(n.Op) && slices.ContainsFunc(n.In, w.stale) {
		return nil, api.ErrStale
	}
	return rule.Back(n, w.inputs(n), w.made[at], grad)
}

// stale tells whether a node is a Leaf whose numbers are others by now.
func (w *way) stale(at int) bool {
	n := w.nodes[at]
	return n.Op == api.Leaf && w.ask.Stale[n.No]
}

// inputs answers what n's inputs are, forward.
func (w *way) inputs(n api.Node) []api.Tensor {
	l := make([]api.Tensor, len(n.In))
	for i, in := range n.In {
		l[i] = w.made[in]
	}
	return l
}
