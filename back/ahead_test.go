package back

import (
	"math"
	"slices"
	"testing"

	"backstitch/api"
	"backstitch/eval"
)

// fault is graphs of which graph 0 is refused by eval.All, where there are three leaves of shape (2, 1), and a param of that shape.
type fault struct {
	what string
	l    []api.Graph
	want api.Errno
}

func threeLeaves() []api.Tensor {
	return list(counted(2, 1), counted(2, 1), counted(2, 1))
}

// faults is one for each way in which eval.All refuses graphs: what graph.Check, graph.Work and graph.Shapes tell.
func faults() []fault {
	p := param()
	return []fault{
		{"no graphs", nil, api.ErrGraph},
		{"too many graphs", slices.Repeat(all(wide(1)), api.MaxGraphs+1), api.ErrLimit},
		{"a graph of no nodes", all(of()), api.ErrLimit},
		{"a graph of no nodes elsewhere", all(of(p), of()), api.ErrLimit},
		{"a graph of too many nodes", all(wide(api.MaxNodes + 1)), api.ErrLimit},
		{"operator 0", all(of(leaf(0), node(0))), api.ErrOp},
		{"one past the last operator", all(of(leaf(0), node(api.Call+1))), api.ErrOp},
		{"too few inputs", all(of(leaf(0), node(api.Add, 0))), api.ErrArg},
		{"too many inputs", all(of(leaf(0), node(api.Neg, 0, 0))), api.ErrArg},
		{"a Call without an input", all(of(leaf(0), node(api.Call))), api.ErrArg},
		{"a Param that is not node 0", all(of(leaf(0), p)), api.ErrArg},
		{"an input that is the node", all(of(leaf(0), node(api.Neg, 1))), api.ErrCycle},
		{"an input that is no node", all(of(leaf(0), node(api.Neg, math.MaxInt))), api.ErrCycle},
		{"an input below 0", all(of(leaf(0), node(api.Neg, -1))), api.ErrGraph},
		{"a Call of none", all(of(leaf(0), call(api.MaxGraphs, 0))), api.ErrGraph},
		{"a Call of -1", all(of(leaf(0), call(-1, 0))), api.ErrGraph},
		{"leaf -1", all(of(leaf(-1))), api.ErrLeaf},
		{"one behind the last leaf", all(of(leaf(3))), api.ErrLeaf},
		{"one behind the last leaf elsewhere", all(of(p), of(leaf(3))), api.ErrLeaf},
		{"a constant without a tensor", all(of(constant(none()))), api.ErrShape},
		{"a constant with too few numbers", all(of(constant(tens(ints(2), 1)))), api.ErrShape},
		{"a hook that is none", all(of(hooked(leaf(0), api.Hook{}))), api.ErrHook},
		{"a hook that may not be", all(of(hooked(leaf(0), clip(-1)))), api.ErrHook},
		{"too many hooks", all(of(hooked(leaf(0), zero(), zero(), zero(), zero(), zero()))), api.ErrHook},
		{"Calls itself", all(of(p, call(0, 0))), api.ErrDepth},
		{"Calls too deep", chain(api.MaxDepth + 1), api.ErrDepth},
		{"too much work", all(often(64, 1), wide(64)), api.ErrWork},
		{"a product of what does not fit", all(of(p, node(api.Matmul, 0, 0))), api.ErrShape},
		{"a broadcast to what does not fit", all(of(p, to(api.Broadcast, 0, 3, 1))), api.ErrShape},
		{"a broadcast to what is too great", all(of(p, to(api.Broadcast, 0, 2, 4096))), api.ErrShape},
		{"reshaped to another size", all(of(p, to(api.Reshape, 0, 3))), api.ErrSize},
		{"a product that is too great", all(of(p, constant(counted(1, 2049)), node(api.Matmul, 0, 1))), api.ErrSize},
		{"what does not fit within a Call", all(of(p, call(1, 0)), of(p, to(api.Reshape, 0, 3))), api.ErrSize},
		{"what does not fit behind the root", all(of(p, to(api.Reshape, 0, 3), node(api.Neg, 0))), api.ErrSize},
	}
}

// spoiled is an Ask, and the ways in which all that is not eval.All's can be wrong with it, together and by each alone; its root is of shape (2, 1).
func spoiled(a Ask) []Ask {
	var l []Ask
	for _, root := range ints(0, -1, api.MaxNodes+1) {
		for _, deep := range ints(1, -1, api.MaxDepth+1) {
			for _, stale := range [][]bool{make([]bool, len(a.Leaves)), nil, make([]bool, 99)} {
				for _, seed := range list(counted(2, 1), row(1), none()) {
					b := a
					b.Root, b.Deep, b.Stale, b.Seed = root, deep, stale, seed
					l = append(l, b)
				}
			}
		}
	}
	return l
}

// TestEvalGoesFirst: each error of eval.All, whatever else is wrong.
func TestEvalGoesFirst(t *testing.T) {
	for _, f := range faults() {
		for _, a := range spoiled(Ask{Graphs: f.l, Leaves: threeLeaves(), Param: counted(2, 1)}) {
			refused(t, f.what, a, f.want)
		}
	}
	fine := all(of(param(), node(api.Neg, 0)), of(leaf(0)))
	for _, wrong := range wrongTensors() {
		for at := range 3 {
			leaves := slices.Insert(list(row(1), row(2)), at, wrong)
			for _, a := range spoiled(Ask{Graphs: fine, Leaves: leaves, Param: counted(2, 1)}) {
				refused(t, text("a leaf of shape ", wrong.Shape), a, api.ErrLeaf)
			}
		}
		for _, a := range spoiled(Ask{Graphs: fine, Leaves: threeLeaves(), Param: wrong}) {
			refused(t, text("a param of shape ", wrong.Shape), a, api.ErrShape)
		}
		a := asking(all(of(leaf(0), node(api.Neg, 0))), list(row(1)), row(2)).param(wrong)
		comes(t, text("no Param, a param of shape ", wrong.Shape), a, none(), row(-2))
	}
	for _, g := range ints(math.MinInt, -1, 2, 1<<32, math.MaxInt) {
		for _, a := range spoiled(Ask{Graphs: fine, Leaves: threeLeaves(), Param: counted(2, 1)}) {
			a.Graph = g
			refused(t, text("graph ", g), a, api.ErrGraph)
		}
	}
	for _, a := range spoiled(Ask{Graphs: fine, Leaves: slices.Repeat(list(row(1)), api.MaxLeaves+1), Param: counted(2, 1)}) {
		refused(t, "too many leaves", a, api.ErrLimit)
	}
	refused(t, "nothing at all", Ask{}, api.ErrGraph)
}

// TestFaultsAreThoseOfEval: the table above is what eval.All tells.
func TestFaultsAreThoseOfEval(t *testing.T) {
	for _, f := range faults() {
		if _, e := eval.All(f.l, threeLeaves(), 0, counted(2, 1)); e != f.want {
			t.Errorf("%s: eval.All tells %v, want %v", f.what, e, f.want)
		}
	}
}

// TestArgumentsGoAheadOfTheSeed: Root, Deep and Stale are ErrArg, whatever the seed is; then the seed is ErrShape.
func TestArgumentsGoAheadOfTheSeed(t *testing.T) {
	seen := map[api.Errno]int{}
	g := all(of(param(), node(api.Neg, 0)))
	for _, a := range spoiled(Ask{Graphs: g, Leaves: threeLeaves(), Param: counted(2, 1)}) {
		want := api.OK
		switch {
		case a.Root != 0, a.Deep != 1, len(a.Stale) != 3:
			want = api.ErrArg
		case !slices.Equal(a.Seed.Shape, ints(2, 1)):
			want = api.ErrShape
		}
		seen[want]++
		if want != api.OK {
			refused(t, text(a.Root, a.Deep, len(a.Stale), a.Seed), a, want)
			continue
		}
		comes(t, "all is well", a, counted(2, 1), filled(0, 2, 1), filled(0, 2, 1), filled(0, 2, 1))
	}
	if seen[api.OK] != 1 || seen[api.ErrShape] != 2 || seen[api.ErrArg] != 78 {
		t.Errorf("seen: %v", seen)
	}
}

func TestRoot(t *testing.T) {
	x := row(1, 2)
	l := all(of(leaf(0), node(api.Neg, 0), node(api.Neg, 1)), wide(7))
	a := asking(l, list(x), row(3, 4))
	comes(t, "the first node", a.from(0), none(), row(3, 4))
	comes(t, "one in the middle", a.from(1), none(), row(-3, -4))
	comes(t, "the last node", a.from(2), none(), row(3, 4))
	for _, root := range ints(math.MinInt, -1<<32, -2, -1, 3, 4, 6, 1<<32, 1<<32+1, math.MaxInt) {
		refused(t, text("root ", root), a.from(root), api.ErrArg)
	}
	comes(t, "the last node of a greater graph", a.graph(1), none(), row(3, 4))
	refused(t, "one behind it", a.graph(1).from(7), api.ErrArg)
	most := asking(all(wide(api.MaxNodes)), list(x), row(3, 4))
	comes(t, "the last one of as many as may be", most, none(), row(3, 4))
	refused(t, "one behind the last one of as many as may be", most.from(api.MaxNodes), api.ErrArg)
}

func TestDeepThatMayNotBe(t *testing.T) {
	a := asking(all(of(leaf(0))), list(row(1)), row(2))
	for deep := range api.MaxDepth + 1 {
		comes(t, text(deep, " deep"), a.deep(deep), none(), row(2))
	}
	for _, deep := range ints(math.MinInt, -1<<32, -2, -1, api.MaxDepth+1, api.MaxDepth+2, 1<<32, 1<<32+1, math.MaxInt) {
		refused(t, text(deep, " deep"), a.deep(deep), api.ErrArg)
	}
}

func TestStaleOfAnotherLength(t *testing.T) {
	for many := range api.MaxLeaves + 1 {
		l := all(of(constant(row(1))))
		a := asking(l, slices.Repeat(list(row(1)), many), row(2))
		want := slices.Repeat(list(row(0)), many)
		for told := range api.MaxLeaves + 3 {
			a.Stale = slices.Repeat([]bool{true}, told)
			if told == many {
				comes(t, text(many, " leaves"), a, none(), want...)
				continue
			}
			refused(t, text(many, " leaves, ", told, " told"), a, api.ErrArg)
		}
	}
	refused(t, "none told", asking(all(of(leaf(0))), list(row(1)), row(2)).without(), api.ErrArg)
	comes(t, "none, where there are no leaves", asking(all(of(param())), nil, row(2)).param(row(1)).without(), row(2))
}

// without is the Ask without anything told of leaves.
func (a Ask) without() Ask {
	a.Stale = nil
	return a
}

func TestSeed(t *testing.T) {
	for _, root := range list(counted(2, 3), counted(3), counted(1), single(1), counted(1, 1), counted(2, 1, 3)) {
		a := asking(all(of(leaf(0), constant(counted(9)))), list(root), none()).from(0)
		for _, seed := range list(counted(2, 3), counted(3, 2), counted(6), counted(3), counted(1), single(1), counted(1, 1), counted(1, 3), counted(2, 1, 3), counted(2, 3, 1), counted(9), counted(64, 64)) {
			a.Seed = seed
			if slices.Equal(seed.Shape, root.Shape) {
				comes(t, text("a seed of shape ", seed.Shape), a, none(), seed)
				continue
			}
			refused(t, text("a root of shape ", root.Shape, ", a seed of shape ", seed.Shape), a, api.ErrShape)
		}
		for _, wrong := range wrongTensors() {
			a.Seed = wrong
			refused(t, text("a seed of shape ", wrong.Shape, " with ", len(wrong.Data), " numbers"), a, api.ErrShape)
		}
	}
}
