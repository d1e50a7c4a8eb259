package back

import (
	"slices"
	"testing"

	"backstitch/api"
	"backstitch/eval"
	"backstitch/fold"
	"backstitch/hook"
	"backstitch/op"
	"backstitch/rule"
	"backstitch/tensor"
)

// seeds is numbers by a rule, so that each run has the same.
type seeds uint64

func (s *seeds) below(n int) int {
	*s = *s*6364136223846793005 + 1442695040888963407
	return int(uint64(*s) >> 33 % uint64(n))
}

func (s *seeds) shape() []int {
	l := [][]int{nil, {1}, {2}, {3}, {2, 1}, {1, 3}, {2, 2}, {2, 3}, {3, 2}, {6}}
	return l[s.below(len(l))]
}

// tensor is one of a shape, whose numbers are of some kinds.
func (s *seeds) tensor(kinds []float64, shape []int) api.Tensor {
	t := filled(0, shape...)
	for i := range t.Data {
		t.Data[i] = kinds[s.below(len(kinds))]
	}
	return t
}

// strays is numbers of all kinds, tame ones such as rounding is seen by.
func strays() []float64 {
	return []float64{0, less, 1, -1, 0.1, -1.0 / 3, 2.5, tiny, -great, inf, below, nan, other, huge, 7}
}

func tame() []float64 { return []float64{0.1, -1.0 / 3, 2.5, 7, 1e9, -0.7, 1e-9, 3, -1, 0} }

// node is one that is well at a place in graph g, which Calls earlier graphs alone; its shapes may fit or not.
func (s *seeds) node(kinds []float64, g, at, leaves int) api.Node {
	n := api.Node{Op: api.Leaf + s.below(api.Call), No: s.below(leaves), To: s.shape()}
	if often := ints(api.Call, api.Call, api.Leaf, api.Mul, api.Div, api.Relu, api.Log, api.Matmul); s.below(2) == 0 {
		n.Op = often[s.below(len(often))]
	}
	for range op.Many(n.Op) {
		n.In = append(n.In, s.below(max(at, 1)))
	}
	switch {
	case n.Op == api.Param && at == 0:
	case len(n.In) > 0 && at == 0, n.Op == api.Param, n.Op == api.Const, n.Op == api.Call && g == 0:
		return constant(s.tensor(kinds, s.shape()))
	case n.Op == api.Call:
		n.No = s.below(g)
	}
	return n
}

// hooks is some, mostly none.
func (s *seeds) hooks() []api.Hook {
	var l []api.Hook
	for s.below(4) == 0 && len(l) < api.MaxHooks {
		some := []api.Hook{scale(2), scale(-0.1), clip(1), clip(0.3), zero(), finite(), finite(), scale(nan), clip(inf)}
		l = append(l, some[s.below(len(some))])
	}
	return l
}

// spelling is the chapter's sentences for an Ask of which nothing is wrong ahead of all. What was asked once is remembered, or it would take too long.
type spelling struct {
	a    Ask
	made []api.Tensor
	grad map[int]api.Tensor
	gave map[int][]api.Tensor
	run  map[int]Gradient
}

// spelled is what Run must answer.
func spelled(a Ask) Gradient {
	made, e := eval.All(a.Graphs, a.Leaves, a.Graph, a.Param)
	if e != api.OK {
		return Gradient{Node: -1, Err: e}
	}
	if a.Root < 0 || a.Root >= len(a.Graphs[a.Graph].L) || a.Deep < 0 || a.Deep > 8 || len(a.Stale) != len(a.Leaves) {
		return Gradient{Node: -1, Err: api.ErrArg}
	}
	if !tensor.May(a.Seed) || !slices.Equal(a.Seed.Shape, made[a.Root].Shape) {
		return Gradient{Node: -1, Err: api.ErrShape}
	}
	s := spelling{a, made, map[int]api.Tensor{}, map[int][]api.Tensor{}, map[int]Gradient{}}
	for at := len(made) - 1; at >= 0; at-- {
		if e := s.failure(at); e != api.OK {
			return Gradient{Node: at, Err: e}
		}
	}
	return s.whole()
}

func (s spelling) nodes() []api.Node { return s.a.Graphs[s.a.Graph].L }

// reached tells whether a node is the root, or an input of one that is reached.
func (s spelling) reached(at int) bool {
	if at == s.a.Root {
		return true
	}
	for k := at + 1; k < len(s.nodes()); k++ {
		if slices.Contains(s.nodes()[k].In, at) && s.reached(k) {
			return true
		}
	}
	return false
}

// failure is that of a node, where no greater one fails.
func (s spelling) failure(at int) api.Errno {
	if !s.reached(at) {
		return api.OK
	}
	n := s.nodes()[at]
	if _, e := s.gradient(at); e != api.OK {
		return e
	}
	if rule.Needs(n.Op) {
		for _, in := range n.In {
			if below := s.nodes()[in]; below.Op == api.Leaf && s.a.Stale[below.No] {
				return api.ErrStale
			}
		}
	}
	if n.Op != api.Call {
		return api.OK
	}
	if s.a.Deep == 0 {
		return api.ErrDepth
	}
	return s.inside(at).Err
}

// gradient is that of a node that is reached, behind its hooks.
func (s spelling) gradient(at int) (api.Tensor, api.Errno) {
	if g, had := s.grad[at]; had {
		return g, api.OK
	}
	coming := s.a.Seed
	if at != s.a.Root {
		var l []api.Tensor
		for k := len(s.nodes()) - 1; k > at; k-- {
			for slot, in := range s.nodes()[k].In {
				if in == at && s.reached(k) {
					l = append(l, s.gives(k)[slot])
				}
			}
		}
		coming, _ = fold.Tree(l)
	}
	g, e := hook.Do(s.nodes()[at].Hooks, coming)
	if e == api.OK {
		s.grad[at] = g
	}
	return g, e
}

// inside is the Run of a Call's graph.
func (s spelling) inside(at int) Gradient {
	if g, had := s.run[at]; had {
		return g
	}
	n := s.nodes()[at]
	seed, _ := s.gradient(at)
	g := spelled(Ask{Graphs: s.a.Graphs, Leaves: s.a.Leaves, Graph: n.No, Root: len(s.a.Graphs[n.No].L) - 1, Seed: seed, Param: s.made[n.In[0]], Deep: s.a.Deep - 1, Stale: s.a.Stale})
	s.run[at] = g
	return g
}

// gives is what a node that does not fail gives to its inputs.
func (s spelling) gives(at int) []api.Tensor {
	if l, had := s.gave[at]; had {
		return l
	}
	n := s.nodes()[at]
	var in []api.Tensor
	for _, i := range n.In {
		in = append(in, s.made[i])
	}
	grad, _ := s.gradient(at)
	l, _ := rule.Back(n, in, s.made[at], grad)
	if n.Op == api.Call {
		l = list(s.inside(at).Param)
		if s.a.Graphs[n.No].L[0].Op != api.Param {
			l = list(filled(0, in[0].Shape...))
		}
	}
	s.gave[at] = l
	return l
}

// whole is the gradients of an Ask of which no node fails.
func (s spelling) whole() Gradient {
	var g Gradient
	for i, x := range s.a.Leaves {
		var l []api.Tensor
		for at := len(s.made) - 1; at >= 0; at-- {
			switch n := s.nodes()[at]; {
			case !s.reached(at):
			case n.Op == api.Leaf && n.No == i:
				grad, _ := s.gradient(at)
				l = append(l, grad)
			case n.Op == api.Call:
				l = append(l, s.inside(at).Leaf[i])
			}
		}
		sum, e := fold.Tree(l)
		if e != api.OK {
			sum = filled(0, x.Shape...)
		}
		g.Leaf = append(g.Leaf, sum)
	}
	if s.nodes()[0].Op == api.Param {
		g.Param = filled(0, s.made[0].Shape...)
		if s.reached(0) {
			g.Param, _ = s.gradient(0)
		}
	}
	return g
}

// asSpelled wants Run to answer what the sentences say; it answers their error.
func asSpelled(t *testing.T, a Ask) api.Errno {
	t.Helper()
	want := spelled(a)
	if want.Err != api.OK {
		fails(t, text(a), a, want.Node, want.Err)
		return want.Err
	}
	comes(t, text(a), a, want.Param, want.Leaf...)
	return want.Err
}

// grown is graphs that fit, each node with hooks now and then; a last one that does not fit is left out.
func (s *seeds) grown(kinds []float64, leaves []api.Tensor, graphs, nodes int) ([]api.Graph, []api.Tensor) {
	l := all(of(constant(s.tensor(kinds, s.shape()))))
	params := list(none())
	for g := 1; g < graphs; g++ {
		l = append(l, of())
		params = append(params, s.tensor(kinds, s.shape()))
		for range 1 + s.below(nodes) {
			n := s.node(kinds, g, len(l[g].L), len(leaves))
			n.Hooks = s.hooks()
			l[g].L = append(l[g].L, n)
			if _, e := eval.All(l, leaves, g, params[g]); e != api.OK {
				l[g].L = l[g].L[:len(l[g].L)-1]
			}
		}
		if len(l[g].L) == 0 {
			l[g] = of(leaf(0))
		}
	}
	return l, params
}

// TestAsSpelled: many graphs, from each of their nodes, with seeds, stale leaves and depths of many kinds.
func TestAsSpelled(t *testing.T) {
	s := seeds(13)
	reached, seen := map[int]int{}, map[api.Errno]int{}
	for round := range 1500 {
		kinds := tame()
		if round%3 == 0 {
			kinds = strays()
		}
		var leaves []api.Tensor
		for range 1 + s.below(4) {
			leaves = append(leaves, s.tensor(kinds, s.shape()))
		}
		l, params := s.grown(kinds, leaves, 5, 14)
		for g := range l {
			made, e := eval.All(l, leaves, g, params[g])
			if e != api.OK {
				t.Fatal(e)
			}
			a := asking(l, leaves, none()).graph(g).param(params[g])
			for root := range made {
				a = a.from(root).stale()
				a.Seed, a.Deep = s.tensor(kinds, made[root].Shape), api.MaxDepth
				if s.below(3) == 0 {
					a.Deep = s.below(4)
				}
				for i := range a.Stale {
					a.Stale[i] = s.below(3) == 0 && root%2 == 0
				}
				e := asSpelled(t, a)
				seen[e]++
				if e == api.OK {
					reached[l[g].L[root].Op]++
				}
			}
		}
	}
	for o := api.Leaf; o <= api.Call; o++ {
		if reached[o] < 100 {
			t.Errorf("too few roots of operator %v: %v", o, reached[o])
		}
	}
	if seen[api.ErrHook] < 500 || seen[api.ErrStale] < 500 || seen[api.ErrDepth] < 500 || len(seen) != 4 {
		t.Errorf("too few of some: %v", seen)
	}
}

// TestWhateverIsGiven: an Ask of which anything may be wrong; each end is one that the chapter has.
func TestWhateverIsGiven(t *testing.T) {
	s := seeds(1313)
	seen := map[api.Errno]int{}
	for range 6000 {
		var leaves []api.Tensor
		for range 1 + s.below(3) {
			leaves = append(leaves, s.maybe(60))
		}
		l := make([]api.Graph, s.below(40)%4)
		for g := range l {
			for at := range 1 + s.below(5) {
				l[g].L = append(l[g].L, s.raw(g, at, len(leaves)))
			}
		}
		a := Ask{Graphs: l, Leaves: leaves, Graph: s.odd(len(l)), Root: s.odd(3), Seed: s.maybe(20), Param: s.maybe(20), Deep: s.odd(9), Stale: make([]bool, len(leaves))}
		if s.below(20) == 0 {
			a.Stale = make([]bool, s.below(5))
		}
		seen[asSpelled(t, a)]++
	}
	for e := api.OK; e <= api.ErrLeaf; e++ {
		if seen[e] < 10 {
			t.Errorf("too few had %v: %v", e, seen[e])
		}
	}
}

// odd is a number from 0 to below n, now and then one that is not.
func (s *seeds) odd(n int) int {
	if s.below(12) == 0 {
		return s.below(n+3) - 2
	}
	return s.below(max(n, 1))
}

// maybe is a tensor, now and then one that may not be.
func (s *seeds) maybe(seldom int) api.Tensor {
	if s.below(seldom) == 0 {
		return wrongTensors()[s.below(len(wrongTensors()))]
	}
	return s.tensor(tame(), s.shape())
}

// raw is a node of which some things may be wrong.
func (s *seeds) raw(g, at, leaves int) api.Node {
	n := s.node(tame(), g, at, leaves)
	n.Hooks = s.hooks()
	switch s.below(80) {
	case 0:
		n.Op = s.below(api.Call+3) - 1
	case 1:
		n.In = append(slices.Clone(n.In), 0)
	case 2:
		n.In = ints(s.below(at+3) - 1)
	case 3:
		n.No = s.below(9) - 1
	case 4:
		n.Val = wrongTensors()[s.below(len(wrongTensors()))]
	case 5:
		n.Hooks = []api.Hook{{Do: s.below(6)}}
	case 6:
		n = call(s.below(6)-1, at-1)
	}
	return n
}
