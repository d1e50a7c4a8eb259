package hook

import (
	"fmt"
	"slices"
	"testing"

	"backstitch/api"
)

const spare = 4

// roomy answers a list with marked spare room behind it.
func roomy[N int | float64](l ...N) []N {
	return append(append(make([]N, 0, len(l)+spare), l...), 77, 78, 79, 80)[:len(l)]
}

// untouched tells whether a list that roomy made from l, and its spare room, are as they were.
func untouched[N int | float64](made, l []N) bool {
	return slices.EqualFunc(made[:len(l)+spare], append(slices.Clone(l), 77, 78, 79, 80), func(a, b N) bool { return alike(float64(a), float64(b)) })
}

// overwrite writes over a list and its spare room.
func overwrite[N int | float64](l []N) {
	for i := range l[:cap(l)] {
		l[:cap(l)][i] = 99
	}
}

func fill(x api.Tensor) {
	overwrite(x.Shape)
	overwrite(x.Data)
}

func roomyTensor(x api.Tensor) api.Tensor {
	return api.Tensor{Shape: roomy(x.Shape...), Data: roomy(x.Data...)}
}

// marked is what stands in the spare room behind roomyHooks: a hook that would be heard.
var marked = scale(77)

func roomyHooks(l []api.Hook) []api.Hook {
	return append(append(make([]api.Hook, 0, len(l)+1), l...), marked)[:len(l)]
}

// asGiven wants hooks and a tensor to be as roomyHooks and roomyTensor made them.
func asGiven(t *testing.T, l, given []api.Hook, x, made api.Tensor) {
	t.Helper()
	alikeHooks := func(a, b api.Hook) bool { return a.Do == b.Do && alike(a.X, b.X) }
	if !slices.EqualFunc(given[:len(l)+1], append(slices.Clone(l), marked), alikeHooks) {
		t.Errorf("the hooks %v became %v", l, given[:len(l)+1])
	}
	if !untouched(made.Shape, x.Shape) || !untouched(made.Data, x.Data) {
		t.Errorf("by %v the tensor %v became %v", l, x, made)
	}
}

// calls is hooks whose answer could share most with what was handed in: they leave it as it is, or once more.
func calls() [][]api.Hook {
	return [][]api.Hook{
		nil,
		hooks(finite()),
		hooks(finite(), finite(), finite(), finite()),
		hooks(scale(1)),
		hooks(clip(inf)),
		hooks(zero()),
		hooks(zero(), finite()),
		hooks(finite(), scale(2)),
		hooks(scale(2), finite()),
		hooks(scale(3), clip(5), finite(), scale(-1)),
	}
}

func someTensors() []api.Tensor {
	return []api.Tensor{tens(nil, 3), tens(ints(1), 3), tens(ints(2), 1, -2), tens(ints(2, 2), 1, 2, 3, 4), tens(ints(1, 2, 1, 1), 0, 0), counted(4096)}
}

// TestMemoryIsApart: R4: what is handed in stays as it is, spare room too, and an answer is new memory, its shape too.
func TestMemoryIsApart(t *testing.T) {
	for _, l := range calls() {
		for _, x := range someTensors() {
			want, _ := expected(l, x)
			given, made := roomyHooks(l), roomyTensor(x)
			got, e := Do(given, made)
			if e != api.OK || !same(got, want) {
				t.Errorf("Do(%v, %v) = %v, %v, want %v", l, brief(x), brief(got), e, brief(want))
			}
			asGiven(t, l, given, x, made)
			overwrite(got.Data)
			if !slices.Equal(got.Shape, want.Shape) {
				t.Errorf("%v: the shape became %v with the numbers", l, got.Shape)
			}
			fill(got)
			asGiven(t, l, given, x, made)
			check(t, given, made, want)
		}
	}
}

// TestNothingIsKept: R4: what is written into a list that was handed in is not seen in an answer.
func TestNothingIsKept(t *testing.T) {
	for _, l := range calls() {
		for _, x := range someTensors() {
			want, _ := expected(l, x)
			given, made := roomyHooks(l), roomyTensor(x)
			got, _ := Do(given, made)
			fill(made)
			for i := range given {
				given[i] = clip(-1)
			}
			if !same(got, want) {
				t.Errorf("%v: the answer became %v", l, brief(got))
			}
		}
	}
}

// TestAnswersAreApart: R4, R5: no two answers share memory, and none hangs on calls before it.
func TestAnswersAreApart(t *testing.T) {
	for _, l := range calls() {
		for _, x := range someTensors() {
			want, _ := expected(l, x)
			first, _ := Do(l, x)
			second, _ := Do(l, x)
			fill(first)
			if !same(second, want) {
				t.Errorf("%v: the answer became %v", l, brief(second))
			}
			Do(hooks(scale(5)), x)
			Do(hooks(clip(-1)), x)
			check(t, l, x, want)
		}
	}
}

// TestRefusedChangesNothing: R3, R4: also where hooks ahead of the one that refuses had changed the numbers.
func TestRefusedChangesNothing(t *testing.T) {
	x := tens(ints(3), 1, inf, nan)
	for _, c := range []struct {
		l []api.Hook
		x api.Tensor
	}{
		{hooks(finite()), x},
		{hooks(scale(2), finite()), x},
		{hooks(scale(2), clip(1), scale(3), finite()), x},
		{hooks(finite(), zero()), x},
		{hooks(scale(2), clip(-1)), x},
		{hooks(zero(), zero(), zero(), zero(), zero()), x},
		{hooks(zero()), tens(ints(2), 5)},
		{hooks(scale(2)), tens(ints(2), 5, 6, 7)},
		{nil, tens(ints(0), 5)},
		{nil, api.Tensor{}},
		{hooks(clip(nan)), tens(ints(-1), 5)},
	} {
		given, made := roomyHooks(c.l), roomyTensor(c.x)
		for range 2 {
			if _, e := Do(given, made); e == api.OK {
				t.Errorf("Do(%v, %v) is taken", c.l, c.x)
			}
			asGiven(t, c.l, given, c.x, made)
		}
		check(t, hooks(scale(2)), tens(ints(1), 1), tens(ints(1), 2))
	}
}

// TestOverlappingLists: the numbers of two tensors may lie in one memory.
func TestOverlappingLists(t *testing.T) {
	data := list(1, 2, 3, 4)
	front, end := tens(ints(3), data[:3]...), tens(ints(3), data[1:]...)
	check(t, hooks(scale(2)), front, tens(ints(3), 2, 4, 6))
	check(t, hooks(scale(2)), end, tens(ints(3), 4, 6, 8))
	if fmt.Sprint(data) != "[1 2 3 4]" {
		t.Errorf("the numbers became %v", data)
	}
}
