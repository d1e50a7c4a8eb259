package rule

import (
	"slices"
	"testing"

	"backstitch/api"
	"backstitch/op"
)

const spare = 4

// roomy answers a list with marked spare room behind it.
func roomy[N int | float64](l ...N) []N {
	return append(append(make([]N, 0, len(l)+spare), l...), 77, 78, 79, 80)[:len(l)]
}

// untouched tells whether a list that roomy made from l, and its spare room, are as they were.
func untouched[N int | float64](made, l []N) bool {
	return slices.Equal(made[:len(l)+spare], append(slices.Clone(l), 77, 78, 79, 80))
}

// overwrite writes over a list and its spare room.
func overwrite[N int | float64](l []N) {
	for i := range l[:cap(l)] {
		l[:cap(l)][i] = 99
	}
}

func fill(x api.Tensor) {
	overwrite(x.Shape)
	overwrite(x.Data)
}

func roomyTensor(x api.Tensor) api.Tensor {
	return api.Tensor{Shape: roomy(x.Shape...), Data: roomy(x.Data...)}
}

func tensorUntouched(made, x api.Tensor) bool {
	return untouched(made.Shape, x.Shape) && untouched(made.Data, x.Data)
}

// call is a call where an answer could share most: what comes back are numbers that were handed in, or shapes.
type call struct {
	n         api.Node
	in        []api.Tensor
	out, grad api.Tensor
	want      []api.Tensor
}

func calls() []call {
	a, g := tens(ints(2, 2), 1, 2, 3, 4), tens(ints(2, 2), 5, 6, 7, 8)
	ones, unit := tens(ints(2, 2), 1, 1, 1, 1), tens(ints(2, 2), 1, 0, 0, 1)
	negative := tens(ints(2, 2), -5, -6, -7, -8)
	return []call{
		{with(a), nil, a, g, nil},
		{node(api.Add), ins(a, ones), a, g, ins(g, g)},
		{node(api.Add), ins(tens(nil, 5), tens(nil, 0)), tens(nil, 5), tens(nil, 7), ins(tens(nil, 7), tens(nil, 7))},
		{node(api.Add), ins(a, tens(ints(1), 5)), a, g, ins(g, tens(ints(1), 26))},
		{node(api.Sub), ins(a, ones), a, g, ins(g, negative)},
		{node(api.Mul), ins(ones, ones), ones, g, ins(g, g)},
		{node(api.Mul), ins(a, ones), a, ones, ins(ones, a)},
		{node(api.Div), ins(ones, ones), ones, g, ins(g, negative)},
		{node(api.Neg), ins(a), a, g, ins(negative)},
		{node(api.Exp), ins(a), ones, g, ins(g)},
		{node(api.Exp), ins(a), g, ones, ins(g)},
		{node(api.Log), ins(ones), a, g, ins(g)},
		{node(api.Relu), ins(a), a, g, ins(g)},
		{node(api.Matmul), ins(unit, unit), unit, g, ins(g, g)},
		{node(api.Matmul), ins(a, a), a, unit, ins(tens(ints(2, 2), 1, 3, 2, 4), tens(ints(2, 2), 1, 3, 2, 4))},
		{node(api.Sum), ins(tens(ints(1), 3)), tens(ints(1), 3), tens(ints(1), 7), ins(tens(ints(1), 7))},
		{node(api.Sum), ins(a), tens(ints(1), 10), tens(ints(1), 7), ins(tens(ints(2, 2), 7, 7, 7, 7))},
		{to(api.Broadcast, 2, 2), ins(a), a, g, ins(g)},
		{to(api.Broadcast, 1, 2, 2), ins(a), tens(ints(1, 2, 2), a.Data...), tens(ints(1, 2, 2), g.Data...), ins(g)},
		{to(api.Reshape, 2, 2), ins(a), a, g, ins(g)},
		{to(api.Reshape, 4), ins(a), tens(ints(4), a.Data...), tens(ints(4), g.Data...), ins(g)},
	}
}

// roomyCall is a call's arguments in lists with spare room, the list of inputs too.
func roomyCall(c call) call {
	made := call{out: roomyTensor(c.out), grad: roomyTensor(c.grad)}
	made.n = api.Node{Op: c.n.Op, In: roomy(5, 6), To: roomy(c.n.To...), No: 7, Val: roomyTensor(c.n.Val), Hooks: []api.Hook{{Do: 8, X: 9}}}
	made.in = make([]api.Tensor, len(c.in), len(c.in)+spare)
	for i, x := range c.in {
		made.in[i] = roomyTensor(x)
	}
	return made
}

// asGiven wants arguments to be as roomyCall made them.
func asGiven(t *testing.T, c, made call) {
	t.Helper()
	n := made.n
	ok := n.Op == c.n.Op && n.No == 7 && untouched(n.In, ints(5, 6)) && untouched(n.To, c.n.To) && tensorUntouched(n.Val, c.n.Val)
	ok = ok && slices.Equal(n.Hooks, []api.Hook{{Do: 8, X: 9}})
	ok = ok && tensorUntouched(made.out, c.out) && tensorUntouched(made.grad, c.grad)
	for i, x := range made.in[:cap(made.in)] {
		if i < len(c.in) {
			ok = ok && tensorUntouched(x, c.in[i])
		} else {
			ok = ok && x.Shape == nil && x.Data == nil
		}
	}
	if !ok {
		t.Errorf("%s: what was handed in became %v", op.Name(c.n.Op), made)
	}
}

// TestMemoryIsApart: R4: what is handed in stays as it is, spare room too, and an answer is new memory.
func TestMemoryIsApart(t *testing.T) {
	for _, c := range calls() {
		made := roomyCall(c)
		got, e := Back(made.n, made.in, made.out, made.grad)
		if e != api.OK || !slices.EqualFunc(got, c.want, same) {
			t.Errorf("%s: Back = %v, %v, want %v", op.Name(c.n.Op), got, e, c.want)
		}
		for _, x := range got {
			fill(x)
		}
		for i := range got[:cap(got)] {
			got[:cap(got)][i] = tens(ints(99), 99)
		}
		asGiven(t, c, made)
		checkOut(t, op.Name(c.n.Op)+" again", made.n, made.in, made.out, made.grad, c.want...)
	}
}

// TestListsOfOneAnswerAreApart: what is written into one tensor is not seen in the other, nor a shape in numbers.
func TestListsOfOneAnswerAreApart(t *testing.T) {
	for _, c := range calls() {
		for i := range c.want {
			got, _ := Back(c.n, c.in, c.out, c.grad)
			overwrite(got[i].Data)
			if !slices.Equal(got[i].Shape, c.want[i].Shape) {
				t.Errorf("%s: a shape became %v", op.Name(c.n.Op), got[i].Shape)
			}
			overwrite(got[i].Shape)
			for k, x := range got {
				if k != i && !same(x, c.want[k]) {
					t.Errorf("%s: tensor %d became %v with tensor %d", op.Name(c.n.Op), k, x, i)
				}
			}
		}
	}
}

// TestNothingIsKept: R4: what is written into a list that was handed in is not seen in an answer.
func TestNothingIsKept(t *testing.T) {
	for _, c := range calls() {
		made := roomyCall(c)
		got, _ := Back(made.n, made.in, made.out, made.grad)
		overwrite(made.n.To)
		for _, x := range append(made.in, made.n.Val, made.out, made.grad) {
			fill(x)
		}
		for i := range made.in {
			made.in[i] = tens(ints(1), 99)
		}
		if !slices.EqualFunc(got, c.want, same) {
			t.Errorf("%s: the answer became %v", op.Name(c.n.Op), got)
		}
	}
}

// TestOneTensorAsAll: the inputs, the output and the gradient may be one and the same memory.
func TestOneTensorAsAll(t *testing.T) {
	for o, want := range map[int][]float64{
		api.Add: list(1, 2, 3, 4, 1, 2, 3, 4),
		api.Sub: list(1, 2, 3, 4, -1, -2, -3, -4),
		api.Mul: list(1, 4, 9, 16, 1, 4, 9, 16),
		api.Div: list(1, 1, 1, 1, -1, -1, -1, -1),
	} {
		x := roomyTensor(tens(ints(2, 2), 1, 2, 3, 4))
		got, e := Back(node(o), ins(x, x), x, x)
		if e != api.OK || len(got) != 2 || !same(got[0], tens(ints(2, 2), want[:4]...)) || !same(got[1], tens(ints(2, 2), want[4:]...)) {
			t.Errorf("%s: Back = %v, %v, want %v", op.Name(o), got, e, want)
		}
		for _, y := range got {
			fill(y)
		}
		if !tensorUntouched(x, tens(ints(2, 2), 1, 2, 3, 4)) {
			t.Errorf("%s: what was handed in became %v", op.Name(o), x)
		}
	}
}

// TestAnswersAreApart: R4, R5: no two answers share memory, and none hangs on calls before it.
func TestAnswersAreApart(t *testing.T) {
	for _, c := range calls() {
		first, _ := Back(c.n, c.in, c.out, c.grad)
		second, _ := Back(c.n, c.in, c.out, c.grad)
		for _, x := range first {
			fill(x)
		}
		if !slices.EqualFunc(second, c.want, same) {
			t.Errorf("%s: the answer became %v", op.Name(c.n.Op), second)
		}
		checkOut(t, op.Name(c.n.Op)+" later", c.n, c.in, c.out, c.grad, c.want...)
	}
}

// TestRefusedChangesNothing: R3, R4: a call that is refused leaves its arguments as they were.
func TestRefusedChangesNothing(t *testing.T) {
	a, bad := tens(ints(2, 2), 1, 2, 3, 4), tens(ints(3), 1, 2)
	for o := api.Leaf - 1; o <= api.Call+1; o++ {
		for _, l := range [][]api.Tensor{nil, ins(a), ins(bad), ins(a, a), ins(a, bad), ins(bad, a), ins(a, a, a)} {
			for _, x := range ins(a, bad) {
				c := call{n: api.Node{Op: o, To: ints(3, 5), Val: bad}, in: l, out: bad, grad: x}
				made := roomyCall(c)
				Back(made.n, made.in, made.out, made.grad)
				asGiven(t, c, made)
			}
		}
	}
}
