package eval

import (
	"slices"
	"testing"

	"backstitch/api"
)

const spare = 3

// roomy copies a list, with marked spare room behind it.
func roomy[T any](l []T, mark T) []T {
	made := append(make([]T, 0, len(l)+spare), l...)
	return append(made, mark, mark, mark)[:len(l)]
}

func roomyTensor(x api.Tensor) api.Tensor {
	return api.Tensor{Shape: roomy(x.Shape, 77), Data: roomy(x.Data, 77)}
}

// roomyGraphs copies graphs and all lists in them; what is marked would be heard if it were asked.
func roomyGraphs(l []api.Graph) []api.Graph {
	made := roomy(l, of(node(77)))
	for i, g := range l {
		made[i].L = roomy(g.L, node(77))
		for k, n := range g.L {
			made[i].L[k] = api.Node{Op: n.Op, In: roomy(n.In, 77), To: roomy(n.To, 77), No: n.No, Val: roomyTensor(n.Val), Hooks: roomy(n.Hooks, api.Hook{Do: 77})}
		}
	}
	return made
}

func roomyTensors(l []api.Tensor) []api.Tensor {
	made := roomy(l, row(77))
	for i, x := range l {
		made[i] = roomyTensor(x)
	}
	return made
}

// opened is a list with its spare room.
func opened[T any](l []T) []T { return l[:cap(l)] }

// pictured tells all that there is in a tensor, with all spare room.
func pictured(x api.Tensor) string {
	return text(len(x.Shape), opened(x.Shape), len(x.Data), opened(x.Data))
}

// asked is what is handed in to a call.
type asked struct {
	what   string
	l      []api.Graph
	leaves []api.Tensor
	g      int
	param  api.Tensor
}

// roomy copies all that is handed in.
func (a asked) roomy() asked {
	return asked{a.what, roomyGraphs(a.l), roomyTensors(a.leaves), a.g, roomyTensor(a.param)}
}

// picture tells all that there is in what is handed in, with all spare room.
func (a asked) picture() string {
	told := text(len(a.l), len(a.leaves), a.g, pictured(a.param))
	for _, g := range opened(a.l) {
		told += text("; graph", len(g.L))
		for _, n := range opened(g.L) {
			told += text("; ", n, opened(n.In), opened(n.To), pictured(n.Val), opened(n.Hooks))
		}
	}
	for _, x := range opened(a.leaves) {
		told += text("; leaf", pictured(x))
	}
	return told
}

// tell answers what All tells, and its tensors.
func (a asked) tell() (string, []api.Tensor) {
	l, e := All(a.l, a.leaves, a.g, a.param)
	return text(l, e), l
}

// overwrite writes over tensors, and all spare room.
func overwrite(l ...api.Tensor) {
	for _, x := range l {
		for i := range opened(x.Shape) {
			opened(x.Shape)[i] = 99
		}
		for i := range opened(x.Data) {
			opened(x.Data)[i] = 99
		}
	}
}

// taken is calls whose answers could share most with what was handed in, or with each other.
func taken() []asked {
	x := row(2, -3)
	leaves := list(x, tens(ints(2, 1), 4, 5), single(6))
	l := all(
		of(param(), leaf(0), leaf(0), leaf(1), leaf(2), constant(x), constant(x),
			to(api.Broadcast, 0, 2), to(api.Reshape, 0, 2), to(api.Reshape, 0, 2, 1), to(api.Broadcast, 3, 2, 1), to(api.Reshape, 0, 1, 2),
			node(api.Neg, 0), node(api.Relu, 0), node(api.Add, 0, 4), node(api.Div, 0, 0), node(api.Sum, 0), node(api.Sum, 16), node(api.Matmul, 9, 11)),
		of(param()),
		of(leaf(0)),
		of(constant(x)),
		of(param(), call(1, 0), call(1, 0), call(1, 1), call(2, 0), call(2, 0), call(3, 0), call(3, 0), leaf(0), call(1, 8), call(5, 0), call(6, 0)),
		of(param(), call(1, 0)),
		of(param(), to(api.Reshape, 0, 2)),
		of(leaf(1), leaf(1), leaf(2), leaf(2)),
	)
	var calls []asked
	for g := range l {
		calls = append(calls, asked{text("graph ", g), l, leaves, g, row(7, 8)})
	}
	return calls
}

// TestTakenAreTaken: the calls that the tests here ask are not refused.
func TestTakenAreTaken(t *testing.T) {
	for _, a := range taken() {
		if l, e := All(a.l, a.leaves, a.g, a.param); e != api.OK || len(l) != len(a.l[a.g].L) {
			t.Errorf("%s: %v, %v", a.what, l, e)
		}
	}
}

// notTaken is calls that are refused, after much or little was asked.
func notTaken() []asked {
	var calls []asked
	for _, f := range slices.Concat(unwell(), overdone(), misfits()) {
		calls = append(calls, asked{f.what, f.l, threeLeaves(), 0, counted(2, 1)})
	}
	fine := all(of(param(), node(api.Neg, 0)))
	return append(calls,
		asked{"a leaf that may not be", fine, list(row(1), tens(ints(2), 1)), 0, row(1)},
		asked{"a param that may not be", fine, list(row(1)), 0, tens(ints(2), 1)},
		asked{"a param of a wrong shape", fine, list(row(1)), 0, tens(ints(0))},
		asked{"no such graph", fine, list(row(1)), 5, row(1)},
	)
}

// TestNothingIsChanged: R3, R4: what is handed in stays as it is, spare room too, be the call refused or not; and spare room is not asked.
func TestNothingIsChanged(t *testing.T) {
	for _, a := range append(taken(), notTaken()...) {
		made := a.roomy()
		want, _ := a.tell()
		ahead := made.picture()
		for range 2 {
			if got, _ := made.tell(); got != want {
				t.Errorf("%s: %s, want %s", a.what, got, want)
			}
			if now := made.picture(); now != ahead {
				t.Errorf("%s: %s became %s", a.what, ahead, now)
			}
		}
	}
}

// TestAnswersAreApart: R4: what is written into an answer, spare room too, is seen neither in what was handed in, nor in its other lists, nor in another answer.
func TestAnswersAreApart(t *testing.T) {
	for _, a := range taken() {
		made := a.roomy()
		ahead := made.picture()
		want, other := made.tell()
		_, got := made.tell()
		for i := range got {
			others := slices.Concat(got[:i], got[i+1:])
			now := text(others)
			overwrite(got[i])
			if text(others) != now {
				t.Errorf("%s: with tensor %v the others became %v", a.what, i, others)
			}
		}
		for i := range opened(got) {
			opened(got)[i] = row(99)
		}
		if made.picture() != ahead {
			t.Errorf("%s: what was handed in was changed with the answer", a.what)
		}
		if now := text(other, api.OK); now != want {
			t.Errorf("%s: another answer became %s, want %s", a.what, now, want)
		}
		if now, _ := made.tell(); now != want {
			t.Errorf("%s: later it is %s, want %s", a.what, now, want)
		}
	}
}

// TestNothingIsKept: R4: what is written into lists that were handed in is not seen in an answer, nor in a later one.
func TestNothingIsKept(t *testing.T) {
	for _, a := range taken() {
		made := a.roomy()
		want, got := made.tell()
		overwrite(made.param)
		overwrite(opened(made.leaves)...)
		for _, g := range made.l {
			for i, n := range g.L {
				overwrite(n.Val, api.Tensor{Shape: n.In}, api.Tensor{Shape: n.To})
				g.L[i] = node(99)
			}
		}
		if now := text(got, api.OK); now != want {
			t.Errorf("%s: the answer became %s, want %s", a.what, now, want)
		}
		if now, _ := a.roomy().tell(); now != want {
			t.Errorf("%s: later it is %s, want %s", a.what, now, want)
		}
	}
}

// TestSharedLists: leaves may share their lists with each other, with param and with constants; graphs may share nodes.
func TestSharedLists(t *testing.T) {
	x := row(2, 3)
	in := ints(0, 0)
	nodes := []api.Node{param(), {Op: api.Add, In: in}, {Op: api.Mul, In: in}, leaf(0), leaf(1), constant(x), node(api.Sub, 1, 2)}
	l := all(of(nodes...), of(nodes[:2]...), of(nodes[:1]...))
	valued(t, "all", l, list(x, x), 0, x, x, row(4, 6), row(4, 9), x, x, x, row(0, -3))
	valued(t, "the front", l, list(x, x), 1, x, x, row(4, 6))
	if text(x, in) != text(row(2, 3), ints(0, 0)) {
		t.Errorf("the lists became %v, %v", x, in)
	}
}
