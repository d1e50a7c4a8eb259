package graph

import (
	"slices"
	"testing"

	"backstitch/api"
)

const spare = 3

// roomy copies a list, with marked spare room behind it.
func roomy[T any](l []T, mark T) []T {
	made := append(make([]T, 0, len(l)+spare), l...)
	return append(made, mark, mark, mark)[:len(l)]
}

func roomyTensor(x api.Tensor) api.Tensor {
	return api.Tensor{Shape: roomy(x.Shape, 77), Data: roomy(x.Data, 77)}
}

// roomyGraphs copies graphs and all lists in them; what is marked would be heard if it were asked.
func roomyGraphs(l []api.Graph) []api.Graph {
	made := roomy(l, of(node(77)))
	for i, g := range made {
		made[i].L = roomy(g.L, node(77))
		for k, n := range g.L {
			made[i].L[k] = api.Node{Op: n.Op, In: roomy(n.In, 77), To: roomy(n.To, 77), No: n.No, Val: roomyTensor(n.Val), Hooks: roomy(n.Hooks, api.Hook{Do: 77})}
		}
	}
	return made
}

func roomyShapes(l [][]int) [][]int {
	made := roomy(l, ints(77))
	for i, s := range l {
		made[i] = roomy(s, 77)
	}
	return made
}

// opened is a list with its spare room.
func opened[T any](l []T) []T { return l[:cap(l)] }

// picture tells all that there is in graphs and shapes, with all spare room.
func picture(l []api.Graph, leaves [][]int, param []int) string {
	told := text(len(l), len(leaves), len(param), opened(param))
	for _, g := range opened(l) {
		told += text("; graph", len(g.L))
		for _, n := range opened(g.L) {
			told += text("; ", n, opened(n.In), opened(n.To), opened(n.Val.Shape), opened(n.Val.Data), opened(n.Hooks))
		}
	}
	for _, s := range opened(leaves) {
		told += text("; leaf", s, opened(s))
	}
	return told
}

// overwrite writes over a list and its spare room.
func overwrite(l []int) {
	for i := range opened(l) {
		opened(l)[i] = 99
	}
}

// asked is what is handed in to a call.
type asked struct {
	what   string
	l      []api.Graph
	leaves [][]int
	g      int
	param  []int
}

// taken is calls whose answers could share most with what was handed in, or with each other.
func taken() []asked {
	leaves := sizes(ints(2, 1), ints(3), ints(0))
	l := all(
		of(param(), constant(2, 2), leaf(0), leaf(0), leaf(1), to(api.Broadcast, 4, 5, 3), to(api.Reshape, 3, 1, 2), node(api.Neg, 0), node(api.Add, 0, 0), node(api.Sum, 0), node(api.Matmul, 1, 1), call(1, 0), call(1, 11), call(1, 2), call(2, 2), call(3, 2), call(4, 0), call(5, 0)),
		of(param()),
		of(leaf(1)),
		of(constant(2, 1)),
		of(param(), call(1, 0), call(1, 1)),
		of(param(), to(api.Broadcast, 0, 4, 2), hooked(node(api.Exp, 1), scales(4)...)),
	)
	return []asked{
		{"all operators", l, leaves, 0, ints(2)},
		{"a Param alone", l, leaves, 1, ints(2, 3)},
		{"a Param of no places", l, leaves, 1, ints()},
		{"a Leaf alone", l, leaves, 2, nil},
		{"a Const alone", l, leaves, 3, nil},
		{"Calls of a Param", l, leaves, 4, ints(4)},
		{"with hooks", l, leaves, 5, ints(2)},
	}
}

// refused is calls that some of the functions refuse, after much or little was asked.
func refused() []asked {
	return []asked{
		{"no graph", all(wide(2)), sizes(ints(2)), 7, nil},
		{"a bad node", all(of(leaf(0), node(0))), sizes(ints(2)), 0, nil},
		{"bad hooks", all(of(hooked(leaf(0), scales(5)...))), sizes(ints(2)), 0, nil},
		{"a bad constant", all(of(api.Node{Op: api.Const, Val: tens(ints(2), 1)})), nil, 0, nil},
		{"a bad leaf", all(of(leaf(0))), sizes(ints(0)), 0, nil},
		{"a bad param", all(of(param())), nil, 0, ints(0)},
		{"Calls itself", all(of(param(), call(0, 0))), nil, 0, ints(2)},
		{"too much work", all(often(64, 1), wide(64)), sizes(ints(2)), 0, ints(2)},
		{"shapes that do not fit", all(of(param(), call(1, 0)), of(param(), node(api.Neg, 0), missized())), nil, 0, ints(2)},
		{"too many graphs", slices.Repeat(all(wide(1)), 17), sizes(ints(2)), 0, nil},
	}
}

// askAll asks all functions, and answers what they tell.
func askAll(a asked) (string, [][]int) {
	g, n, e := Check(a.l, a.leaves)
	told := text(g, n, e)
	shapes, f := Shapes(a.l, a.leaves, a.g, a.param)
	told += text(shapes, f)
	work, h := Work(a.l, a.g)
	told += text(work, h)
	for _, g := range a.l {
		told += text(Edges(g))
	}
	return told, shapes
}

func copied(a asked) asked {
	return asked{a.what, roomyGraphs(a.l), roomyShapes(a.leaves), a.g, roomy(a.param, 77)}
}

// TestNothingIsChanged: R3, R4: what is handed in stays as it is, spare room too, be the call refused or not; and spare room is not asked.
func TestNothingIsChanged(t *testing.T) {
	for _, a := range append(taken(), refused()...) {
		made := copied(a)
		want, _ := askAll(a)
		ahead := picture(made.l, made.leaves, made.param)
		for range 2 {
			if got, _ := askAll(made); got != want {
				t.Errorf("%s: %s, want %s", a.what, got, want)
			}
			if now := picture(made.l, made.leaves, made.param); now != ahead {
				t.Errorf("%s: %s became %s", a.what, ahead, now)
			}
		}
	}
}

// TestAnswersAreApart: R4: what is written into an answer, spare room too, is seen neither in what was handed in, nor in its other lists, nor in another answer.
func TestAnswersAreApart(t *testing.T) {
	for _, a := range taken() {
		made := copied(a)
		ahead := picture(made.l, made.leaves, made.param)
		_, other := askAll(made)
		want, got := askAll(made)
		if len(got) == 0 {
			t.Errorf("%s: no shapes", a.what)
		}
		for i := range got {
			now := text(got[i+1:])
			overwrite(got[i])
			if text(got[i+1:]) != now {
				t.Errorf("%s: with shape %v the others became %v", a.what, i, got[i+1:])
			}
		}
		for i := range opened(got) {
			opened(got)[i] = ints(99)
		}
		if picture(made.l, made.leaves, made.param) != ahead {
			t.Errorf("%s: what was handed in was changed with the answer", a.what)
		}
		again, _ := askAll(made)
		shaped(t, a.what, made.l, made.leaves, made.g, made.param, other)
		if again != want {
			t.Errorf("%s: %s, want %s", a.what, again, want)
		}
	}
}

// TestNothingIsKept: R4: what is written into lists that were handed in is not seen in an answer, nor in a later one.
func TestNothingIsKept(t *testing.T) {
	for _, a := range taken() {
		made := copied(a)
		want, got := askAll(made)
		shapes := text(got)
		for _, s := range made.leaves {
			overwrite(s)
		}
		overwrite(made.param)
		for _, g := range made.l {
			for i, n := range g.L {
				overwrite(n.In)
				overwrite(n.To)
				overwrite(n.Val.Shape)
				g.L[i] = node(99)
			}
		}
		if text(got) != shapes {
			t.Errorf("%s: the answer became %v", a.what, got)
		}
		if now, _ := askAll(copied(a)); now != want {
			t.Errorf("%s: later it is %s, want %s", a.what, now, want)
		}
	}
}

// TestSharedLists: graphs may share nodes, and nodes their lists.
func TestSharedLists(t *testing.T) {
	in := ints(0, 0)
	n := api.Node{Op: api.Add, In: in}
	nodes := []api.Node{param(), n, n, node(api.Neg, 2)}
	l := all(of(nodes...), of(nodes[:2]...), of(nodes[:1]...))
	s := ints(2, 3)
	shaped(t, "all", l, sizes(s, s), 0, s, sizes(s, s, s, s))
	shaped(t, "the front", l, sizes(s, s), 1, s, sizes(s, s))
	if text(in, s) != text(ints(0, 0), ints(2, 3)) {
		t.Errorf("the lists became %v, %v", in, s)
	}
}
