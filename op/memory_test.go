package op

import (
	"slices"
	"testing"

	"backstitch/api"
)

const spare = 4

// roomy answers a list with marked spare room behind it.
func roomy[N int | float64](l ...N) []N {
	return append(append(make([]N, 0, len(l)+spare), l...), 77, 78, 79, 80)[:len(l)]
}

// untouched tells whether a list that roomy made from l, and its spare room, are as they were.
func untouched[N int | float64](made, l []N) bool {
	return slices.Equal(made[:len(l)+spare], append(slices.Clone(l), 77, 78, 79, 80))
}

// over writes over a list and its spare room.
func over[N int | float64](l []N) {
	for i := range l[:cap(l)] {
		l[:cap(l)][i] = 99
	}
}

func fill(x api.Tensor) {
	over(x.Shape)
	over(x.Data)
}

// call is a call where an answer could share most.
type call struct {
	n    api.Node
	in   []api.Tensor
	want api.Tensor
}

func calls() []call {
	a, b := tens(ints(2, 2), 1, 2, 3, 4), tens(ints(2, 2), 1, 1, 1, 1)
	unit := tens(ints(2, 2), 1, 0, 0, 1)
	noughts := tens(ints(2, 2), 0, 0, 0, 0)
	return []call{
		{with(a), nil, a},
		{with(tens(nil, 5)), nil, tens(nil, 5)},
		{node(api.Add), ins(a, noughts), a},
		{node(api.Add), ins(tens(nil, 5), tens(nil, 0)), tens(nil, 5)},
		{node(api.Sub), ins(a, noughts), a},
		{node(api.Mul), ins(b, a), a},
		{node(api.Div), ins(a, b), a},
		{node(api.Neg), ins(a), tens(ints(2, 2), -1, -2, -3, -4)},
		{node(api.Exp), ins(noughts), b},
		{node(api.Log), ins(b), noughts},
		{node(api.Relu), ins(a), a},
		{node(api.Matmul), ins(a, unit), a},
		{node(api.Matmul), ins(unit, a), a},
		{node(api.Sum), ins(tens(ints(1), 3)), tens(ints(1), 3)},
		{node(api.Sum), ins(a), tens(ints(1), 10)},
		{to(api.Broadcast, 2, 2), ins(a), a},
		{to(api.Broadcast, 1, 2, 2), ins(a), tens(ints(1, 2, 2), 1, 2, 3, 4)},
		{to(api.Reshape, 2, 2), ins(a), a},
		{to(api.Reshape, 4), ins(a), tens(ints(4), 1, 2, 3, 4)},
		{to(api.Reshape), ins(tens(ints(1), 3)), tens(nil, 3)},
	}
}

func roomyTensor(x api.Tensor) api.Tensor {
	return api.Tensor{Shape: roomy(x.Shape...), Data: roomy(x.Data...)}
}

// given is a call's arguments in lists with spare room, the list of inputs too.
func given(c call) (api.Node, []api.Tensor) {
	n := api.Node{Op: c.n.Op, In: roomy(5, 6), To: roomy(c.n.To...), No: 7, Val: roomyTensor(c.n.Val), Hooks: []api.Hook{{Do: 8, X: 9}}}
	in := make([]api.Tensor, len(c.in), len(c.in)+spare)
	for i, x := range c.in {
		in[i] = roomyTensor(x)
	}
	return n, in
}

func tensorUntouched(made, x api.Tensor) bool {
	return untouched(made.Shape, x.Shape) && untouched(made.Data, x.Data)
}

// asGiven wants arguments to be as given made them.
func asGiven(t *testing.T, c call, n api.Node, in []api.Tensor) {
	t.Helper()
	ok := n.Op == c.n.Op && n.No == 7 && untouched(n.In, ints(5, 6)) && untouched(n.To, c.n.To) && tensorUntouched(n.Val, c.n.Val)
	ok = ok && slices.Equal(n.Hooks, []api.Hook{{Do: 8, X: 9}})
	for i, x := range in[:cap(in)] {
		if i < len(c.in) {
			ok = ok && tensorUntouched(x, c.in[i])
		} else {
			ok = ok && x.Shape == nil && x.Data == nil
		}
	}
	if !ok {
		t.Errorf("%s of %v: what was handed in became %v, %v", Name(c.n.Op), shapesOf(c.in), n, in)
	}
}

// TestMemoryIsApart: R4: what is handed in stays as it is, spare room too, and an answer is new memory.
func TestMemoryIsApart(t *testing.T) {
	for _, c := range calls() {
		n, in := given(c)
		got, e := Value(n, in)
		if e != api.OK || !same(got, c.want) {
			t.Errorf("%s = %v, %v, want %v", Name(n.Op), got, e, c.want)
		}
		fill(got)
		asGiven(t, c, n, in)
		shapes := shapesOf(in)
		s, e := Shape(n, shapes)
		if e != api.OK || !slices.Equal(s, c.want.Shape) {
			t.Errorf("%s: Shape = %v, %v, want %v", Name(n.Op), s, e, c.want.Shape)
		}
		over(s)
		asGiven(t, c, n, in)
		for i, x := range shapes {
			if len(x) != len(c.in[i].Shape) {
				t.Errorf("%s: a shape that was handed in became %v", Name(n.Op), x)
			}
		}
		check(t, Name(n.Op)+" again", n, in, c.want)
	}
}

// TestNothingIsKept: R4: what is written into a list that was handed in is not seen in an answer.
func TestNothingIsKept(t *testing.T) {
	for _, c := range calls() {
		n, in := given(c)
		got, _ := Value(n, in)
		s, _ := Shape(n, shapesOf(in))
		over(n.To)
		fill(n.Val)
		for _, x := range in {
			fill(x)
		}
		if !same(got, c.want) || !slices.Equal(s, c.want.Shape) {
			t.Errorf("%s: the answers became %v and %v", Name(n.Op), got, s)
		}
	}
}

// TestAnswersAreApart: R4, R5: no two answers share memory, and none hangs on calls before it.
func TestAnswersAreApart(t *testing.T) {
	for _, c := range calls() {
		first, _ := Value(c.n, c.in)
		s, _ := Shape(c.n, shapesOf(c.in))
		second, _ := Value(c.n, c.in)
		again, _ := Shape(c.n, shapesOf(c.in))
		fill(first)
		over(s)
		if !same(second, c.want) || !slices.Equal(again, c.want.Shape) {
			t.Errorf("%s: the answers became %v and %v", Name(c.n.Op), second, again)
		}
		check(t, Name(c.n.Op)+" later", c.n, c.in, c.want)
	}
}

// TestNamesAreKept: R5: what was asked before is answered again.
func TestNamesAreKept(t *testing.T) {
	for range 2 {
		for _, c := range known {
			if !May(c.op) || Name(c.op) != c.name || Many(c.op) != c.many {
				t.Errorf("%s is no more what it was", c.name)
			}
		}
	}
}

// TestRefusedChangesNothing: R3, R4: a call that is refused leaves its arguments as they were.
func TestRefusedChangesNothing(t *testing.T) {
	a, bad := tens(ints(2, 2), 1, 2, 3, 4), tens(ints(3), 1, 2)
	for op := api.Leaf - 1; op <= api.Call+1; op++ {
		for _, l := range [][]api.Tensor{nil, ins(a), ins(bad), ins(a, bad), ins(bad, a), ins(a, a, a)} {
			c := call{n: api.Node{Op: op, To: ints(3, 5), Val: bad}, in: l}
			n, in := given(c)
			Value(n, in)
			Shape(n, shapesOf(in))
			asGiven(t, c, n, in)
		}
	}
}
