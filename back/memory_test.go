package back

import (
	"slices"
	"testing"

	"backstitch/api"
)

const spare = 3

// roomy copies a list, with marked spare room behind it.
func roomy[T any](l []T, mark T) []T {
	made := append(make([]T, 0, len(l)+spare), l...)
	return append(made, mark, mark, mark)[:len(l)]
}

func roomyTensor(x api.Tensor) api.Tensor {
	return api.Tensor{Shape: roomy(x.Shape, 77), Data: roomy(x.Data, 77)}
}

// roomyGraphs copies graphs and all lists in them; what is marked would be heard if it were asked.
func roomyGraphs(l []api.Graph) []api.Graph {
	made := roomy(l, of(node(77)))
	for i, g := range l {
		made[i].L = roomy(g.L, node(77))
		for k, n := range g.L {
			made[i].L[k] = api.Node{Op: n.Op, In: roomy(n.In, 77), To: roomy(n.To, 77), No: n.No, Val: roomyTensor(n.Val), Hooks: roomy(n.Hooks, api.Hook{Do: 77})}
		}
	}
	return made
}

// roomy copies all that is handed in.
func (a Ask) roomy() Ask {
	a.Graphs, a.Seed, a.Param, a.Stale = roomyGraphs(a.Graphs), roomyTensor(a.Seed), roomyTensor(a.Param), roomy(a.Stale, true)
	leaves := roomy(a.Leaves, row(77))
	for i, x := range a.Leaves {
		leaves[i] = roomyTensor(x)
	}
	a.Leaves = leaves
	return a
}

// opened is a list with its spare room.
func opened[T any](l []T) []T { return l[:cap(l)] }

// pictured tells all that there is in a tensor, with all spare room.
func pictured(x api.Tensor) string {
	return text(len(x.Shape), opened(x.Shape), len(x.Data), opened(x.Data))
}

// picture tells all that there is in what is handed in, with all spare room.
func (a Ask) picture() string {
	told := text(len(a.Graphs), len(a.Leaves), a.Graph, a.Root, pictured(a.Seed), pictured(a.Param), a.Deep, len(a.Stale), opened(a.Stale))
	for _, g := range opened(a.Graphs) {
		told += text("; graph", len(g.L))
		for _, n := range opened(g.L) {
			told += text("; ", n, opened(n.In), opened(n.To), pictured(n.Val), opened(n.Hooks))
		}
	}
	for _, x := range opened(a.Leaves) {
		told += text("; leaf", pictured(x))
	}
	return told
}

// overwrite writes over tensors, and all spare room.
func overwrite(l ...api.Tensor) {
	for _, x := range l {
		for i := range opened(x.Shape) {
			opened(x.Shape)[i] = 99
		}
		for i := range opened(x.Data) {
			opened(x.Data)[i] = 99
		}
	}
}

// taken is Asks whose answers could share most with what was handed in, or with each other.
func taken() []Ask {
	x, seed := row(2, -3), row(7, 8)
	leaves := list(x, row(4, 5), x, tens(ints(2, 1), 4, 5), single(6))
	l := all(
		of(param(), leaf(0), leaf(1), node(api.Add, 1, 2), node(api.Add, 3, 0)),
		of(param()),
		of(leaf(0)),
		of(constant(x)),
		of(param(), leaf(0)),
		of(leaf(0), call(1, 0)),
		of(leaf(0), call(2, 0)),
		of(param(), call(1, 0)),
		of(param(), call(4, 0)),
		of(param(), call(6, 0)),
		of(leaf(0), leaf(0), leaf(1), to(api.Reshape, 0, 2), to(api.Broadcast, 1, 2), hooked(node(api.Add, 3, 4), finite()), node(api.Sub, 5, 2)),
		of(hooked(leaf(0), finite()), hooked(leaf(1), scale(1), clip(9), zero()), node(api.Mul, 0, 1)),
		of(leaf(0), leaf(1), call(0, 0), call(0, 1), call(10, 0), node(api.Add, 2, 3), node(api.Mul, 5, 4)),
	)
	var asks []Ask
	for g := range l {
		a := asking(l, leaves, seed).graph(g).param(x)
		asks = append(asks, a)
		if g == 0 || g == 10 {
			asks = append(asks, a.from(0), a.from(1))
		}
	}
	return append(asks, asking(all(square()), nil, seed).without().param(x), asks[0].stale(0, 1))
}

// notTaken is Asks that are refused, or at whose end a node fails, after much or little was reckoned.
func notTaken() []Ask {
	var asks []Ask
	for _, f := range faults() {
		asks = append(asks, Ask{Graphs: f.l, Leaves: threeLeaves(), Seed: counted(2, 1), Param: counted(2, 1), Stale: make([]bool, 3)})
	}
	for _, c := range failing() {
		g := of(leaf(0), c.n, node(api.Neg, 1), node(api.Mul, 2, 1))
		asks = append(asks, asking(failures(g), list(row(1, 2)), row(inf, 1)).stale(0).deep(c.deep))
	}
	fine := asking(all(of(param(), leaf(0), node(api.Mul, 0, 1))), list(row(1)), row(2)).param(row(3))
	other := fine
	other.Seed = single(1)
	return append(asks, fine.from(3), fine.deep(-1), fine.without(), fine.stale(0), other, fine.param(none()))
}

// TestTakenAreTaken: the Asks that the tests here hand in are answered, or are not, as they are meant to be.
func TestTakenAreTaken(t *testing.T) {
	for i, a := range taken() {
		if g := Run(a); g.Err != api.OK || len(g.Leaf) != len(a.Leaves) {
			t.Errorf("Ask %v: %s", i, short(g))
		}
	}
	for i, a := range notTaken() {
		if g := Run(a); g.Err == api.OK || len(g.Leaf) != 0 {
			t.Errorf("Ask %v: %s", i, short(g))
		}
	}
}

// TestNothingIsChanged: R3, R4: what is handed in stays as it is, spare room too, be it refused or not; and spare room is not asked.
func TestNothingIsChanged(t *testing.T) {
	for i, a := range append(taken(), notTaken()...) {
		made := a.roomy()
		want := text(Run(a))
		ahead := made.picture()
		for range 2 {
			if got := text(Run(made)); got != want {
				t.Errorf("Ask %v: %s, want %s", i, got, want)
			}
			if now := made.picture(); now != ahead {
				t.Errorf("Ask %v: %s became %s", i, ahead, now)
			}
		}
	}
}

// TestAnswersAreApart: R4: what is written into an answer, spare room too, is seen neither in what was handed in, nor in its other lists, nor in another answer.
func TestAnswersAreApart(t *testing.T) {
	for i, a := range taken() {
		made := a.roomy()
		ahead := made.picture()
		got, other := Run(made), Run(made)
		want := text(other)
		tensors := append(slices.Clone(got.Leaf), got.Param)
		for k := range tensors {
			others := slices.Concat(tensors[:k], tensors[k+1:])
			now := text(others)
			overwrite(tensors[k])
			if text(others) != now {
				t.Errorf("Ask %v: with tensor %v the others became %v", i, k, others)
			}
		}
		for k := range opened(got.Leaf) {
			opened(got.Leaf)[k] = row(99)
		}
		if made.picture() != ahead {
			t.Errorf("Ask %v: what was handed in was changed with the answer", i)
		}
		if now := text(other); now != want {
			t.Errorf("Ask %v: another answer became %s, want %s", i, now, want)
		}
		if now := text(Run(made)); now != want {
			t.Errorf("Ask %v: later it is %s, want %s", i, now, want)
		}
	}
}

// TestNothingIsKept: R4: what is written into lists that were handed in is not seen in an answer, nor in a later one.
func TestNothingIsKept(t *testing.T) {
	for i, a := range taken() {
		made := a.roomy()
		got := Run(made)
		want := text(got)
		overwrite(made.Seed, made.Param)
		overwrite(opened(made.Leaves)...)
		for k := range made.Stale {
			made.Stale[k] = true
		}
		for _, g := range made.Graphs {
			for k, n := range g.L {
				overwrite(n.Val, api.Tensor{Shape: n.In}, api.Tensor{Shape: n.To})
				g.L[k] = node(99)
			}
		}
		if now := text(got); now != want {
			t.Errorf("Ask %v: the answer became %s, want %s", i, now, want)
		}
		if now := text(Run(a.roomy())); now != want {
			t.Errorf("Ask %v: later it is %s, want %s", i, now, want)
		}
	}
}

// TestSharedLists: leaves, Param, seed and constants may share their lists, graphs their nodes.
func TestSharedLists(t *testing.T) {
	x := row(2, 3)
	in := ints(0, 0)
	nodes := []api.Node{param(), {Op: api.Add, In: in}, {Op: api.Mul, In: in}, leaf(0), leaf(1), constant(x), node(api.Mul, 2, 3), node(api.Add, 6, 4)}
	l := all(of(nodes...), of(nodes[:3]...), of(nodes[:2]...))
	a := asking(l, list(x, x), x).param(x)
	comes(t, "all", a, row(2*2*2*2, 2*3*3*3), row(8, 27), x)
	comes(t, "the front", a.graph(1), row(8, 18), row(0, 0), row(0, 0))
	if text(x, in) != text(row(2, 3), ints(0, 0)) {
		t.Errorf("the lists became %v, %v", x, in)
	}
}
