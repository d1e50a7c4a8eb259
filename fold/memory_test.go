package fold

import (
	"fmt"
	"slices"
	"testing"

	"backstitch/api"
)

const spare = 4

// roomy answers a list with marked spare room behind it.
func roomy[N int | float64](l ...N) []N {
	return append(append(make([]N, 0, len(l)+spare), l...), 77, 78, 79, 80)[:len(l)]
}

// untouched tells whether a list that roomy made from l, and its spare room, are as they were.
func untouched[N int | float64](made, l []N) bool {
	return slices.Equal(made[:len(l)+spare], append(slices.Clone(l), 77, 78, 79, 80))
}

// overwrite writes over a list and its spare room.
func overwrite[N int | float64](l []N) {
	for i := range l[:cap(l)] {
		l[:cap(l)][i] = 99
	}
}

func fill(x api.Tensor) {
	overwrite(x.Shape)
	overwrite(x.Data)
}

func roomyTensor(x api.Tensor) api.Tensor {
	return api.Tensor{Shape: roomy(x.Shape...), Data: roomy(x.Data...)}
}

// roomyList is tensors in lists with spare room, their own list too.
func roomyList(l []api.Tensor) []api.Tensor {
	made := make([]api.Tensor, len(l), len(l)+spare)
	for i, x := range l {
		made[i] = roomyTensor(x)
	}
	return made
}

// asGiven wants tensors to be as roomyList made them.
func asGiven(t *testing.T, what string, made, l []api.Tensor) {
	t.Helper()
	for i, x := range made[:cap(made)] {
		ok := x.Shape == nil && x.Data == nil
		if i < len(l) {
			ok = untouched(x.Shape, l[i].Shape) && untouched(x.Data, l[i].Data)
		}
		if !ok {
			t.Errorf("%s: tensor %d that was handed in became %v", what, i, x)
		}
	}
}

// lists is tensors whose tree could share most with them: one alone, one among noughts, of shapes with and without numbers.
func lists() [][]api.Tensor {
	return [][]api.Tensor{
		all(tens(ints(2), 1, 2)),
		all(tens(nil, 1)),
		all(tens(ints(2), 1, 2), tens(ints(2), 0, 0)),
		all(tens(ints(2, 2), 0, 0, 0, 0), tens(ints(2, 2), 1, 2, 3, 4), tens(ints(2, 2), 0, 0, 0, 0)),
		all(tens(ints(3), 1, 2, 3), tens(ints(3), 4, 5, 6), tens(ints(3), 7, 8, 9), tens(ints(3), 10, 11, 12)),
	}
}

// TestTreeMemoryIsApart: R4: what is handed in stays as it is, spare room too, and an answer is new memory.
func TestTreeMemoryIsApart(t *testing.T) {
	for _, l := range lists() {
		what := fmt.Sprint(l)
		want := treeBy(l, halved)
		made := roomyList(l)
		first, e := Tree(made)
		check(t, "Tree "+what, first, e, want)
		second, _ := Tree(made)
		overwrite(first.Data)
		if !slices.Equal(first.Shape, want.Shape) {
			t.Errorf("%s: the shape became %v with the numbers", what, first.Shape)
		}
		fill(first)
		asGiven(t, what, made, l)
		check(t, "Tree after "+what, second, api.OK, want)
		checkTree(t, "again "+what, made, want)
		for i, x := range made {
			fill(x)
			made[i] = tens(ints(1), 99)
		}
		check(t, "Tree kept apart "+what, second, api.OK, want)
	}
}

// TestRefusedTreeChangesNothing: R3, R4.
func TestRefusedTreeChangesNothing(t *testing.T) {
	for _, l := range [][]api.Tensor{
		nil,
		all(tens(ints(2), 1)),
		all(tens(ints(2), 1, 2), tens(ints(1), 1)),
		all(tens(ints(2), 1, 2), tens(ints(2), 1, 2), tens(ints(2, 1), 1, 2)),
		all(tens(ints(0)), tens(ints(2), 1, 2)),
	} {
		made := roomyList(l)
		Tree(made)
		asGiven(t, fmt.Sprint(l), made, l)
	}
}

// TestNewKeepsNothing: the shape that was handed in stays as it is, and is changed behind the call unheard.
func TestNewKeepsNothing(t *testing.T) {
	for many := range 3 {
		s := roomy(2, 2)
		f := made(t, s, many)
		if !untouched(s, ints(2, 2)) {
			t.Errorf("the shape became %v", s[:cap(s)])
		}
		overwrite(s)
		want := tens(ints(2, 2), 0, 0, 0, 0)
		for slot := range many {
			put(t, f, slot, tens(ints(99, 99), 1, 2, 3, 4), api.ErrShape)
			put(t, f, slot, tens(ints(2, 2), 1, 2, 3, 4), api.OK)
			want = filled(ints(2, 2), func(i int) float64 { return float64((slot + 1) * (i + 1)) })
		}
		checkValue(t, fmt.Sprint("of ", many), f, want)
		if !slices.Equal(s[:cap(s)], ints(99, 99, 99, 99, 99, 99)) {
			t.Errorf("the shape became %v", s[:cap(s)])
		}
	}
}

// TestPutKeepsNothing: tensors that were handed in stay as they are, and are changed behind the call unheard.
func TestPutKeepsNothing(t *testing.T) {
	for _, l := range lists() {
		what := fmt.Sprint(l)
		given := roomyList(l)
		f := made(t, l[0].Shape, len(l))
		for slot := len(l) - 1; slot >= 0; slot-- {
			put(t, f, slot, given[slot], api.OK)
		}
		asGiven(t, what, given, l)
		for _, x := range given {
			fill(x)
		}
		left(t, f, 0)
		checkValue(t, what, f, treeBy(l, halved))
	}
}

// TestOneTensorInAllSlots: changed between two calls, each slot has what it was when it was put.
func TestOneTensorInAllSlots(t *testing.T) {
	f := made(t, ints(1), 3)
	x := tens(ints(1), 0)
	for slot, y := range list(1, 10, 100) {
		x.Data[0] = y
		put(t, f, slot, x, api.OK)
	}
	x.Data[0] = 1000
	checkValue(t, "of one tensor", f, tens(ints(1), 111))
}

// TestValuesAreApart: R4: what is handed out shares nothing with the slots, with what was put, or with what is handed out later.
func TestValuesAreApart(t *testing.T) {
	for _, l := range append(lists(), nil) {
		what := fmt.Sprint(l)
		s, want := ints(2), tens(ints(2), 0, 0)
		if len(l) > 0 {
			s, want = l[0].Shape, treeBy(l, halved)
		}
		given := roomyList(l)
		f := made(t, s, len(l))
		for slot, x := range given {
			put(t, f, slot, x, api.OK)
		}
		first, _ := f.Value()
		second, _ := f.Value()
		fill(first)
		check(t, "Value kept apart "+what, second, api.OK, want)
		fill(second)
		checkValue(t, what, f, want)
		asGiven(t, what, given, l)
	}
}

// TestValueOutlivesItsSlots: an answer of slots is not heard of by others, nor others by it.
func TestValueOutlivesItsSlots(t *testing.T) {
	x, y := tens(ints(2), 1, 2), tens(ints(2), 10, 20)
	f, g := made(t, ints(2), 2), made(t, ints(2), 2)
	put(t, f, 0, x, api.OK)
	left(t, g, 2)
	put(t, g, 0, y, api.OK)
	put(t, f, 1, y, api.OK)
	left(t, g, 1)
	v, _ := f.Value()
	put(t, g, 1, v, api.OK)
	fill(v)
	checkValue(t, "of one", f, tens(ints(2), 11, 22))
	checkValue(t, "of the other", g, tens(ints(2), 21, 42))
}

// TestRefusedPutChangesNothing: R3, R4: neither the slots nor what was handed in.
func TestRefusedPutChangesNothing(t *testing.T) {
	l := all(tens(ints(2), 5), tens(ints(2), 5, 6, 7), tens(ints(2, 1), 5, 6), tens(ints(0)), tens(ints(2), 5, 6))
	given := roomyList(l)
	f := made(t, ints(2), 2)
	put(t, f, 0, tens(ints(2), 1, 2), api.OK)
	for _, slot := range ints(-1, 0, 2) {
		for _, x := range given {
			put(t, f, slot, x, api.ErrArg)
		}
	}
	for _, x := range given[:4] {
		put(t, f, 1, x, api.ErrShape)
	}
	asGiven(t, "what was refused", given, l)
	left(t, f, 1)
	put(t, f, 1, tens(ints(2), less, less), api.OK)
	checkValue(t, "after refusals", f, tens(ints(2), 1, 2))
}
