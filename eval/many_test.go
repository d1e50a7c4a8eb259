package eval

import (
	"slices"
	"testing"

	"backstitch/api"
	"backstitch/graph"
	"backstitch/op"
	"backstitch/tensor"
)

// seeds is numbers by a rule, so that each run has the same.
type seeds uint64

func (s *seeds) below(n int) int {
	*s = *s*6364136223846793005 + 1442695040888963407
	return int(uint64(*s) >> 33 % uint64(n))
}

// tensor is one of a shape, whose numbers are of all kinds.
func (s *seeds) tensor(shape []int) api.Tensor {
	kinds := []float64{0, less, 1, -1, 0.1, -1.0 / 3, 2.5, tiny, -great, inf, below, nan, other, 1 << 53, 7}
	t := filled(0, shape...)
	for i := range t.Data {
		t.Data[i] = kinds[s.below(len(kinds))]
	}
	return t
}

// node is one that is well at a place in graph g, which Calls earlier graphs alone; its shapes may fit or not.
func (s *seeds) node(g, at, leaves int) api.Node {
	n := api.Node{Op: api.Leaf + s.below(api.Call), No: s.below(leaves), To: s.shape()}
	for range op.Many(n.Op) {
		n.In = append(n.In, s.below(max(at, 1)))
	}
	switch {
	case n.Op == api.Param && at == 0:
	case len(n.In) > 0 && at == 0, n.Op == api.Param, n.Op == api.Const, n.Op == api.Call && g == 0:
		return constant(s.tensor(s.shape()))
	case n.Op == api.Call:
		n.No = s.below(g)
	}
	return n
}

func (s *seeds) shape() []int {
	l := [][]int{nil, {1}, {2}, {3}, {2, 1}, {1, 3}, {2, 2}, {2, 3}, {3, 2}, {6}}
	return l[s.below(len(l))]
}

// spelled is the chapter's sentence, asked from a node on for what it needs, each time anew; of what is Called all nodes are asked, since any may have an error.
func spelled(l []api.Graph, leaves []api.Tensor, g, at int, param api.Tensor) (api.Tensor, api.Errno) {
	n := l[g].L[at]
	var in []api.Tensor
	for _, below := range n.In {
		x, e := spelled(l, leaves, g, below, param)
		if e != api.OK {
			return x, e
		}
		in = append(in, x)
	}
	switch n.Op {
	case api.Leaf:
		return leaves[n.No], api.OK
	case api.Param:
		return param, api.OK
	case api.Call:
		inside, e := spelledAll(l, leaves, n.No, in[0])
		if e != api.OK {
			return api.Tensor{}, e
		}
		return inside[len(inside)-1], e
	}
	return op.Value(n, in)
}

// spelledAll is it for each node of graph g, up to the first error.
func spelledAll(l []api.Graph, leaves []api.Tensor, g int, param api.Tensor) ([]api.Tensor, api.Errno) {
	var want []api.Tensor
	for at := range l[g].L {
		x, e := spelled(l, leaves, g, at, param)
		if e != api.OK {
			return nil, e
		}
		want = append(want, x)
	}
	return want, api.OK
}

// asSpelled wants what the sentence says of graph g; it answers whether it has no error.
func asSpelled(t *testing.T, l []api.Graph, leaves []api.Tensor, g int, param api.Tensor) bool {
	t.Helper()
	want, e := spelledAll(l, leaves, g, param)
	if e != api.OK {
		refused(t, text(l, " of ", g), l, leaves, g, param, e)
		return false
	}
	valued(t, text(l, " of ", g), l, leaves, g, param, want...)
	return true
}

// TestAsSpelled: many graphs, each grown node by node; what does not fit is tried too, and then left out.
func TestAsSpelled(t *testing.T) {
	s := seeds(12)
	fitted, others := map[int]int{}, 0
	for range 800 {
		var leaves []api.Tensor
		for range 1 + s.below(5) {
			leaves = append(leaves, s.tensor(s.shape()))
		}
		l := all(of(constant(s.tensor(s.shape()))))
		for g := 1; g < 5; g++ {
			param := s.tensor(s.shape())
			l = append(l, of())
			for range 1 + s.below(9) {
				n := s.node(g, len(l[g].L), len(leaves))
				l[g].L = append(l[g].L, n)
				if asSpelled(t, l, leaves, g, param) {
					fitted[n.Op]++
					continue
				}
				others++
				l[g].L = slices.Delete(l[g].L, len(l[g].L)-1, len(l[g].L))
			}
			if len(l[g].L) == 0 {
				l[g] = of(constant(single(2)))
			}
		}
	}
	for op := api.Leaf; op <= api.Call; op++ {
		if fitted[op] < 50 {
			t.Errorf("too few of operator %v fitted: %v", op, fitted[op])
		}
	}
	if others < 500 {
		t.Errorf("too few did not fit: %v", others)
	}
}

// raw is a node of which some things may be wrong.
func (s *seeds) raw(g, at, leaves int) api.Node {
	n := s.node(g, at, leaves)
	switch s.below(60) {
	case 0:
		n.Op = s.below(api.Call+3) - 1
	case 1:
		n.In = append(slices.Clone(n.In), 0)
	case 2:
		n.In = ints(s.below(at+3) - 1)
	case 3:
		n.No = s.below(9) - 1
	case 4:
		n.Val = wrongTensors()[s.below(len(wrongTensors()))]
	case 5:
		n.Hooks = []api.Hook{{Do: s.below(6)}}
	case 6:
		n = call(s.below(6)-1, at-1)
	case 7:
		n.To = wrongShapes()[s.below(len(wrongShapes()))].Shape
	}
	return n
}

// maybe is a tensor, now and then one that may not be.
func (s *seeds) maybe(seldom int) api.Tensor {
	if s.below(seldom) == 0 {
		return wrongTensors()[s.below(len(wrongTensors()))]
	}
	return s.tensor(s.shape())
}

// expected is the chapter's sentence for the error, told by graph.Shapes of the shapes.
func expected(l []api.Graph, leaves []api.Tensor, g int, param api.Tensor) api.Errno {
	var sizes [][]int
	for _, x := range leaves {
		if !tensor.May(x) {
			return api.ErrLeaf
		}
		sizes = append(sizes, x.Shape)
	}
	_, e := graph.Shapes(l, sizes, g, param.Shape)
	if e == api.OK && l[g].L[0].Op == api.Param && !tensor.May(param) {
		return api.ErrShape
	}
	return e
}

// TestWhateverIsGiven: graphs, leaves, g and param of which anything may be wrong.
func TestWhateverIsGiven(t *testing.T) {
	s := seeds(99)
	seen := map[api.Errno]int{}
	for range 10000 {
		var leaves []api.Tensor
		for range s.below(4) {
			leaves = append(leaves, s.maybe(40))
		}
		l := make([]api.Graph, s.below(5))
		for g := range l {
			for at := range s.below(40) % 5 {
				l[g].L = append(l[g].L, s.raw(g, at, max(len(leaves), 1)))
			}
		}
		g, param := s.below(len(l)+2)-1, s.maybe(4)
		want := expected(l, leaves, g, param)
		seen[want]++
		if want != api.OK {
			refused(t, text(l, leaves, g, param), l, leaves, g, param, want)
			continue
		}
		asSpelled(t, l, leaves, g, param)
	}
	for e := api.OK; e <= api.ErrLimit; e++ {
		if seldom := e == api.ErrWork || e == api.ErrStale || e == api.ErrStuck; !seldom && seen[e] < 10 {
			t.Errorf("too few had %v: %v", e, seen[e])
		}
	}
}
