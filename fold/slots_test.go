package fold

import (
	"fmt"
	"math"
	"slices"
	"testing"

	"backstitch/api"
)

// TestExample: slots 2, filled 1 then 0: 0's and 1's.
func TestExample(t *testing.T) {
	f := made(t, ints(2), 2)
	left(t, f, 2)
	put(t, f, 1, tens(ints(2), 1, 2), api.OK)
	left(t, f, 1)
	put(t, f, 0, tens(ints(2), 10, 20), api.OK)
	left(t, f, 0)
	checkValue(t, "of two", f, tens(ints(2), 11, 22))
}

// TestOneSlot: what was put, not added to 0.
func TestOneSlot(t *testing.T) {
	for _, x := range strays {
		f := made(t, ints(2), 1)
		left(t, f, 1)
		refusedValue(t, "of one left", f)
		put(t, f, 0, tens(ints(2), x, 3), api.OK)
		left(t, f, 0)
		checkValue(t, fmt.Sprint("of ", x), f, tens(ints(2), x, 3))
	}
}

// orders is all orders of so many slots.
func orders(many int) [][]int {
	if many == 0 {
		return [][]int{nil}
	}
	var l [][]int
	for _, o := range orders(many - 1) {
		for i := range many {
			l = append(l, slices.Insert(slices.Clone(o), i, many-1))
		}
	}
	return l
}

// fillIn fills slots in that order, and wants them to tell how many are left.
func fillIn(t *testing.T, l []api.Tensor, order []int) *Slots {
	t.Helper()
	f := made(t, l[0].Shape, len(l))
	for i, slot := range order {
		left(t, f, len(l)-i)
		refusedValue(t, fmt.Sprint("of ", len(l)-i, " left"), f)
		put(t, f, slot, l[slot], api.OK)
	}
	left(t, f, 0)
	return f
}

// TestEachOrder: in whatever order slots are filled, the tree is one: by slot.
func TestEachOrder(t *testing.T) {
	for many := 1; many <= 6; many++ {
		for _, l := range [][]api.Tensor{mixed(uint64(many), many, 2, 3), stray(many, 7), mixed(9, many)} {
			want := treeBy(l, halved)
			for _, order := range orders(many) {
				checkValue(t, fmt.Sprint("in ", order), fillIn(t, l, order), want)
			}
		}
	}
}

// TestRoundedBySlot: numbers whose sum hangs on the order in which they are added.
func TestRoundedBySlot(t *testing.T) {
	for _, c := range []struct {
		l    []float64
		want float64
	}{
		{list(huge, 1, 1), huge},
		{list(1, 1, huge), huge + 2},
		{list(1, huge, -huge), 0},
		{list(huge, -huge, 1), 1},
		{list(huge, 1, 1, 1), huge + 2},
		{list(great, great, -great, -great), nan},
		{list(great, -great, great, -great), 0},
		{list(less, less, less), less},
		{list(less, 0, less), 0},
	} {
		for _, order := range orders(len(c.l)) {
			checkValue(t, fmt.Sprint(c.l, " in ", order), fillIn(t, ones(c.l...), order), tens(ints(1), c.want))
		}
	}
}

// strided is the order of so many slots that goes on by a step, round and round.
func strided(many, step int) []int {
	l := make([]int, many)
	for i := range l {
		l[i] = i * step % many
	}
	return l
}

// TestManySlots: in order, from the last, by steps; and those of one fold less or more.
func TestManySlots(t *testing.T) {
	for _, many := range ints(7, 8, 9, 31, 100, 130, 256, 1023, 1024) {
		l := mixed(uint64(many), many, 3)
		want := treeBy(l, halved)
		backward := strided(many, 1)
		slices.Reverse(backward)
		for _, order := range [][]int{strided(many, 1), backward, strided(many, 17), strided(many, 37)} {
			checkValue(t, fmt.Sprint("of ", many), fillIn(t, l, order), want)
		}
	}
}

func TestSlotsOfEachShape(t *testing.T) {
	for _, s := range someShapes() {
		l := mixed(5, 3, s...)
		checkValue(t, fmt.Sprint("of ", s), fillIn(t, l, ints(2, 0, 1)), treeBy(l, halved))
	}
}

// TestAllSlotsAtTheLimit: as many slots as there may be, of tensors as great as they may be.
func TestAllSlotsAtTheLimit(t *testing.T) {
	f := made(t, ints(4096), 1024)
	x := filled(ints(4096), func(i int) float64 { return float64(i) })
	for i := range 1024 {
		put(t, f, 1023-i, x, api.OK)
	}
	left(t, f, 0)
	checkValue(t, "at the limit", f, filled(ints(4096), func(i int) float64 { return float64(1024 * i) }))
}

// TestNoSlots: noughts, none of them with a sign.
func TestNoSlots(t *testing.T) {
	for _, s := range someShapes() {
		f := made(t, s, 0)
		left(t, f, 0)
		want := filled(s, func(int) float64 { return 0 })
		checkValue(t, fmt.Sprint("of none ", s), f, want)
		put(t, f, 0, counted(s...), api.ErrArg)
		put(t, f, -1, counted(s...), api.ErrArg)
		left(t, f, 0)
		checkValue(t, fmt.Sprint("of none again ", s), f, want)
	}
}

// TestShapeWithoutNumbers: nil and the empty list are one shape.
func TestShapeWithoutNumbers(t *testing.T) {
	for _, s := range [][]int{nil, ints()} {
		f := made(t, s, 2)
		put(t, f, 0, tens(ints(1), 1), api.ErrShape)
		put(t, f, 0, tens(nil, 1), api.OK)
		put(t, f, 1, tens(ints(), 2), api.OK)
		checkValue(t, "of the shape without numbers", f, tens(nil, 3))
	}
}

// wrongMany is how many slots there may not be.
var wrongMany = []int{-1, -2, 1025, 1026, 4096, 1 << 32, math.MinInt, math.MaxInt}

func TestNewAtTheLimit(t *testing.T) {
	for _, many := range ints(0, 1, 2, 255, 256, 257, 1023, 1024) {
		for _, s := range [][]int{nil, ints(2), ints(4096), ints(8, 8, 8, 8)} {
			left(t, made(t, s, many), many)
		}
	}
	if 4*api.MaxNodes != 1024 {
		t.Errorf("the limit is %d", 4*api.MaxNodes)
	}
}

// TestNewRefuses: the shape's error goes ahead of many; beside an error there are no slots.
func TestNewRefuses(t *testing.T) {
	for _, c := range wrongShapes() {
		for _, many := range append(ints(0, 1, 1024), wrongMany...) {
			if f, e := New(c.s, many); f != nil || e != c.e {
				t.Errorf("New %v, %d = %v, %v, want %v", c.s, many, f, e, c.e)
			}
		}
	}
	for _, s := range someShapes() {
		for _, many := range wrongMany {
			if f, e := New(s, many); f != nil || e != api.ErrArg {
				t.Errorf("New %v, %d = %v, %v, want ErrArg", s, many, f, e)
			}
		}
	}
}

// outside is slots that are not there, if there are so many.
func outside(many int) []int {
	return ints(-1, -2, many, many+1, many+1024, math.MinInt, math.MaxInt)
}

// TestPutOfNoSlot: ErrArg, ahead of what the tensor is.
func TestPutOfNoSlot(t *testing.T) {
	for _, many := range ints(0, 1, 2, 3, 1023, 1024) {
		f := made(t, ints(2), many)
		for _, slot := range outside(many) {
			put(t, f, slot, tens(ints(2), 1, 2), api.ErrArg)
			for _, bad := range append(wrongTensors(), counted(3)) {
				put(t, f, slot, bad, api.ErrArg)
			}
		}
		left(t, f, many)
		for slot := range many {
			put(t, f, slot, tens(ints(2), 1, 2), api.OK)
		}
		for _, slot := range outside(many) {
			put(t, f, slot, tens(ints(2), 5, 5), api.ErrArg)
		}
		checkValue(t, fmt.Sprint("of ", many), f, tens(ints(2), float64(many), float64(2*many)))
	}
}

// TestPutOfFilledSlot: ErrArg, ahead of what the tensor is; what was put first stays, noughts too.
func TestPutOfFilledSlot(t *testing.T) {
	for _, first := range all(tens(ints(2), 1, 2), tens(ints(2), 0, 0), tens(ints(2), less, nan)) {
		f := made(t, ints(2), 2)
		again := func(slot, many int) {
			for _, x := range append(wrongTensors(), counted(2), counted(3), counted(2, 1), first) {
				put(t, f, slot, x, api.ErrArg)
			}
			left(t, f, many)
		}
		put(t, f, 1, first, api.OK)
		again(1, 1)
		refusedValue(t, "of one left", f)
		put(t, f, 0, tens(ints(2), less, less), api.OK)
		again(0, 0)
		again(1, 0)
		checkValue(t, "after refusals", f, first)
	}
}

// TestPutOfWrongTensor: ErrShape; the slot stays as it was, and can be filled.
func TestPutOfWrongTensor(t *testing.T) {
	for _, s := range [][]int{nil, ints(1), ints(2), ints(2, 2), ints(4), ints(4096)} {
		f := made(t, s, 2)
		for slot := range 2 {
			for _, bad := range wrongTensors() {
				put(t, f, slot, bad, api.ErrShape)
			}
			for _, o := range someShapes() {
				if !slices.Equal(o, s) {
					put(t, f, slot, counted(o...), api.ErrShape)
				}
			}
			left(t, f, 2-slot)
			refusedValue(t, "of some left", f)
			put(t, f, slot, counted(s...), api.OK)
		}
		left(t, f, 0)
		want := filled(s, func(i int) float64 { return float64(2*i*i + 2) })
		checkValue(t, fmt.Sprint("after refusals ", s), f, want)
	}
}

// TestPutOfWrongMany: the shape is the slots', but there are too few or too many numbers.
func TestPutOfWrongMany(t *testing.T) {
	f := made(t, ints(2), 1)
	for _, data := range [][]float64{nil, list(), list(1), list(1, 2, 3)} {
		put(t, f, 0, tens(ints(2), data...), api.ErrShape)
		left(t, f, 1)
	}
	put(t, f, 0, tens(ints(2), 1, 2), api.OK)
	checkValue(t, "after refusals", f, tens(ints(2), 1, 2))
}

// TestValueChangesNothing: asked early, late and often it answers the same, and what is left stays.
func TestValueChangesNothing(t *testing.T) {
	f := made(t, ints(1), 3)
	for i := range 3 {
		for range 3 {
			refusedValue(t, "of some left", f)
			left(t, f, 3-i)
		}
		put(t, f, (i+1)%3, ones(1, 1, huge)[(i+1)%3], api.OK)
	}
	for range 3 {
		checkValue(t, "again", f, tens(ints(1), huge+2))
		left(t, f, 0)
		put(t, f, 0, tens(ints(1), 5), api.ErrArg)
	}
}

// TestNilSlots: R7.
func TestNilSlots(t *testing.T) {
	var f *Slots
	left(t, f, 0)
	refusedValue(t, "of nil", f)
	for _, slot := range ints(-1, 0, 1, math.MinInt, math.MaxInt) {
		put(t, f, slot, tens(ints(1), 1), api.ErrArg)
		put(t, f, slot, api.Tensor{}, api.ErrArg)
	}
	left(t, f, 0)
	refusedValue(t, "of nil", f)
}

// TestSlotsThatNewDidNotMake: R1: none of their methods panics; there is no slot.
func TestSlotsThatNewDidNotMake(t *testing.T) {
	f := new(Slots)
	left(t, f, 0)
	put(t, f, 0, tens(nil, 1), api.ErrArg)
	checkValue(t, "of zero Slots", f, tens(nil, 0))
}
