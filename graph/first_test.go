package graph

import (
	"slices"
	"testing"

	"backstitch/api"
)

// Of leaves that are asked here, the third may not be.
const wrongLeaf = 2

func three() [][]int { return sizes(ints(2), ints(3), ints(0)) }

// expected is the chapter's sentence for a node at a place, error by error; a Val may be here just if it has one number.
func expected(at int, n api.Node, graphs int) api.Errno {
	inputs := map[int]int{
		api.Leaf: 0, api.Const: 0, api.Param: 0,
		api.Add: 2, api.Sub: 2, api.Mul: 2, api.Div: 2, api.Matmul: 2,
		api.Neg: 1, api.Exp: 1, api.Log: 1, api.Relu: 1, api.Sum: 1, api.Broadcast: 1, api.Reshape: 1, api.Call: 1,
	}
	many, known := inputs[n.Op]
	if !known {
		return api.ErrOp
	}
	if len(n.In) != many || n.Op == api.Param && at > 0 {
		return api.ErrArg
	}
	if len(n.In) > 0 && slices.Max(n.In) >= at {
		return api.ErrCycle
	}
	if len(n.In) > 0 && slices.Min(n.In) < 0 || n.Op == api.Call && (n.No < 0 || n.No >= graphs) {
		return api.ErrGraph
	}
	if n.Op == api.Leaf && (n.No < 0 || n.No > wrongLeaf) {
		return api.ErrLeaf
	}
	if n.Op == api.Leaf && n.No == wrongLeaf || n.Op == api.Const && len(n.Val.Data) != 1 {
		return api.ErrShape
	}
	if len(n.Hooks) > 0 && n.Hooks[0].Do == 0 {
		return api.ErrHook
	}
	return api.OK
}

// nodes is nodes with whatever may be wrong with them, all together with each other.
func nodes(at int) []api.Node {
	in := sizes(nil, ints(0), ints(at), ints(at+1), ints(-1), ints(0, 0), ints(0, at), ints(at+1, 0), ints(0, -1), ints(-1, at), ints(at, -1), ints(0, 0, 0), ints(at, at, -1))
	var l []api.Node
	for op := api.Leaf - 1; op <= api.Call+1; op++ {
		for _, i := range in {
			for _, no := range ints(-1, 0, 1, 2, 3) {
				for _, h := range [][]api.Hook{nil, {{}}} {
					for _, x := range []api.Tensor{{}, tens(ints(1), 5)} {
						l = append(l, api.Node{Op: op, In: i, No: no, Hooks: h, Val: x})
					}
				}
			}
		}
	}
	return l
}

// TestFirstOfANode: whatever is wrong with a node together, the first named is told.
func TestFirstOfANode(t *testing.T) {
	for at := range 3 {
		for _, n := range nodes(at) {
			l := append(wide(at).L, n, leaf(0))
			graphs := all(of(l...), of(param()))
			want := expected(at, n, len(graphs))
			if want == api.OK {
				fine(t, text(n), graphs, three())
				continue
			}
			found(t, text(n, " at ", at), graphs, three(), 0, at, want)
		}
	}
}

// bad is a node for each error, which has it wherever it stands.
func bad() map[api.Errno]api.Node {
	return map[api.Errno]api.Node{
		api.ErrOp:    node(0),
		api.ErrArg:   node(api.Neg),
		api.ErrCycle: node(api.Neg, 99),
		api.ErrGraph: node(api.Neg, -1),
		api.ErrLeaf:  leaf(9),
		api.ErrShape: {Op: api.Const},
		api.ErrHook:  hooked(leaf(0), api.Hook{}),
	}
}

// TestFirstNode: of two nodes the lower one is told, whatever the errors are.
func TestFirstNode(t *testing.T) {
	for e, n := range bad() {
		for _, m := range bad() {
			for at := range 3 {
				for far := at + 1; far < 4; far++ {
					g := wide(4)
					g.L[at], g.L[far] = n, m
					found(t, text(e, " at ", at), all(g), two(), 0, at, e)
				}
			}
		}
	}
}

// TestFirstGraph: of two graphs the first one is told, wherever its node stands; of how many nodes a graph has it is the same.
func TestFirstGraph(t *testing.T) {
	for e, n := range bad() {
		later := wide(4)
		later.L[3] = n
		for _, m := range bad() {
			found(t, text(e), all(wide(1), later, of(m)), two(), 1, 3, e)
			found(t, text(e), all(of(n), of(m), of(m)), two(), 0, 0, e)
		}
		found(t, text(e, " ahead of an empty graph"), all(later, of()), two(), 0, 3, e)
		found(t, text(e, " ahead of a great graph"), all(later, wide(257)), two(), 0, 3, e)
		found(t, text(e, " behind an empty graph"), all(wide(1), of(), later), two(), 1, 0, api.ErrLimit)
		found(t, text(e, " behind a great graph"), all(wide(257), later), two(), 0, 0, api.ErrLimit)
	}
	found(t, "the first of two empty graphs", all(wide(1), wide(2), of(), of()), two(), 2, 0, api.ErrLimit)
}
