package fold

import (
	"fmt"
	"slices"
	"testing"

	"backstitch/api"
)

func TestTree(t *testing.T) {
	for _, c := range []struct {
		l    []api.Tensor
		want api.Tensor
	}{
		{ones(5), tens(ints(1), 5)},
		{ones(1, 2), tens(ints(1), 3)},
		{ones(1, 2, 3), tens(ints(1), 6)},
		{ones(1, 2, 4, 8, 16, 32, 64), tens(ints(1), 127)},
		{all(tens(nil, 1), tens(nil, 2)), tens(nil, 3)},
		{all(tens(nil, 1), tens(ints(), 2)), tens(nil, 3)}, // both have the shape without numbers
		{all(tens(ints(), 1), tens(nil, 2)), tens(nil, 3)},
		{all(tens(ints(3), 1, 2, 3), tens(ints(3), 10, 20, 30)), tens(ints(3), 11, 22, 33)},
		{all(tens(ints(2, 2), 1, 2, 3, 4), tens(ints(2, 2), 5, 6, 7, 8), tens(ints(2, 2), 100, 200, 300, 400)), tens(ints(2, 2), 106, 208, 310, 412)},
		{all(tens(ints(2, 1, 2), 1, 2, 3, 4), tens(ints(2, 1, 2), -1, -2, -3, -4)), tens(ints(2, 1, 2), 0, 0, 0, 0)},
		{all(tens(ints(1, 1, 1, 2), 7, 8)), tens(ints(1, 1, 1, 2), 7, 8)},
	} {
		checkTree(t, fmt.Sprint(c.l), c.l, c.want)
	}
}

// TestTreeOfStrays: noughts with a sign, NaNs, infinities; one number is not added to 0.
func TestTreeOfStrays(t *testing.T) {
	for _, c := range []struct {
		l    []float64
		want float64
	}{
		{list(0), 0},
		{list(less), less},
		{list(less, less), less},
		{list(less, less, less), less},
		{list(less, less, less, less, less), less},
		{list(less, 0), 0},
		{list(0, less), 0},
		{list(less, less, 0), 0},
		{list(1, -1), 0},
		{list(less, 1, -1), 0},
		{list(nan), nan},
		{list(other), nan},
		{list(nan, 1), nan},
		{list(1, other), nan},
		{list(1, 2, nan, 4), nan},
		{list(inf), inf},
		{list(below), below},
		{list(inf, inf), inf},
		{list(inf, below), nan},
		{list(below, 1, great), below},
		{list(inf, 1, 1, below), nan},
		{list(tiny), tiny},
		{list(tiny, tiny), 2 * tiny},
		{list(tiny, -tiny), 0},
		{list(great, great), inf},
		{list(great, tiny), great},
	} {
		checkTree(t, fmt.Sprint(c.l), ones(c.l...), tens(ints(1), c.want))
	}
	for _, x := range strays {
		checkTree(t, fmt.Sprint(x), all(tens(nil, x)), tens(nil, x))
		checkTree(t, fmt.Sprint(x), all(tens(ints(2), 1, x), tens(ints(2), x, less)), tens(ints(2), 1+x, x))
	}
}

// TestTreeIsByHalves: of an odd many the first half is the greater one, and each sum is rounded by itself.
func TestTreeIsByHalves(t *testing.T) {
	for _, c := range []struct {
		l    []float64
		want float64
	}{
		{list(0.1, 0.2), 0.30000000000000004},
		{list(0.1, 0.2, 0.3), 0.6000000000000001},
		{list(0.3, 0.2, 0.1), 0.6},
		{list(huge, 1), huge},
		{list(huge, 1, 1), huge},
		{list(1, 1, huge), huge + 2},
		{list(1, huge, 1), huge},
		{list(huge, 1, 1, 1), huge + 2},
		{list(huge, 1, 1, 1, 1), huge + 2},
		{list(1, 1, huge, 1, 1), huge + 4},
		{list(1, 1, 1, 1, huge), huge + 4},
		{list(1, huge, -huge), 0},
		{list(huge, -huge, 1), 1},
		{list(great, -great, great, -great), 0},
		{list(great, great, -great, -great), nan},
		{list(great, great, -great, 0), inf},
	} {
		checkTree(t, fmt.Sprint(c.l), ones(c.l...), tens(ints(1), c.want))
	}
}

// TestTreeIsNumberByNumber: each place has the fold of its own numbers, in the order of the list.
func TestTreeIsNumberByNumber(t *testing.T) {
	l := all(tens(ints(4), huge, 1, 1, less), tens(ints(4), 1, 1, huge, less), tens(ints(4), 1, huge, 1, less))
	checkTree(t, "of three", l, tens(ints(4), huge, huge+2, huge, less))
	slices.Reverse(l)
	checkTree(t, "of three, from the last", l, tens(ints(4), huge+2, huge, huge, less))
	l = all(tens(ints(2, 2), inf, nan, 0, 1), tens(ints(2, 2), 1, 2, 3, 4))
	checkTree(t, "with strays", l, tens(ints(2, 2), inf, nan, 3, 5))
}

func fromTheLast(l []float64) float64 {
	l = slices.Clone(l)
	slices.Reverse(l)
	return halved(l)
}

func inTurn(l []float64) float64 {
	sum := l[0]
	for _, x := range l[1:] {
		sum = plus(sum, x)
	}
	return sum
}

func sorted(l []float64) float64 {
	l = slices.Clone(l)
	slices.Sort(l)
	return halved(l)
}

// lesserFirst has the lesser half first.
func lesserFirst(l []float64) float64 {
	if len(l) == 1 {
		return l[0]
	}
	half := len(l) / 2
	return plus(lesserFirst(l[:half]), lesserFirst(l[half:]))
}

// byTwos adds neighbours, and those sums again.
func byTwos(l []float64) float64 {
	for len(l) > 1 {
		var next []float64
		for i := 0; i < len(l); i += 2 {
			if i+1 < len(l) {
				next = append(next, plus(l[i], l[i+1]))
			} else {
				next = append(next, l[i])
			}
		}
		l = next
	}
	return l[0]
}

// TestTreeOfEachMany: sums in other orders must come out otherwise at some of them.
func TestTreeOfEachMany(t *testing.T) {
	others := []func(l []float64) float64{fromTheLast, inTurn, sorted, lesserFirst, byTwos}
	told := make([]int, len(others))
	for many := 1; many <= 130; many++ {
		l := mixed(uint64(many), many, 2, 3)
		want := treeBy(l, halved)
		checkTree(t, fmt.Sprint("of ", many), l, want)
		for i, other := range others {
			if !same(want, treeBy(l, other)) {
				told[i]++
			}
		}
		l = stray(many, 5)
		checkTree(t, fmt.Sprint("of strays ", many), l, treeBy(l, halved))
	}
	if slices.Min(told) < 50 {
		t.Errorf("so many lists tell other orders apart: %v", told)
	}
}

// TestTreeOfEachShape: at the limit, too.
func TestTreeOfEachShape(t *testing.T) {
	for _, s := range someShapes() {
		for _, many := range ints(1, 2, 3, 6) {
			l := mixed(uint64(many), many, s...)
			checkTree(t, fmt.Sprint("of ", many, s), l, treeBy(l, halved))
		}
	}
}

// TestTreeOfAsManyAsOneLikes: Tree has no limit of its own, also past that of Slots.
func TestTreeOfAsManyAsOneLikes(t *testing.T) {
	for _, many := range ints(1023, 1024, 1025, 4096, 4097, 1<<16, 1<<17+1) {
		l := mixed(7, many, 1)
		checkTree(t, fmt.Sprint("of ", many), l, treeBy(l, halved))
	}
	l := mixed(8, 1025, 64, 64)
	got, e := Tree(l)
	if e != api.OK || len(got.Data) != 4096 {
		t.Fatalf("Tree of 1025 at the limit = %v, %v", brief(got), e)
	}
	last := make([]float64, len(l))
	for k, x := range l {
		last[k] = x.Data[4095]
	}
	if want := halved(last); !alike(got.Data[4095], want) {
		t.Errorf("Tree of 1025 at the limit ends with %v, want %v", got.Data[4095], want)
	}
}

// TestTreeOfOneTensorAgainAndAgain: the list may have the same memory more than once.
func TestTreeOfOneTensorAgainAndAgain(t *testing.T) {
	x := tens(ints(2), 1, 2)
	checkTree(t, "of one tensor thrice", all(x, x, x), tens(ints(2), 3, 6))
	if !same(x, tens(ints(2), 1, 2)) {
		t.Errorf("the tensor became %v", x)
	}
}

func TestTreeOfNone(t *testing.T) {
	refusedTree(t, "of nil", nil, api.ErrArg)
	refusedTree(t, "of none", all(), api.ErrArg)
	refusedTree(t, "of none of three", ones(1, 2, 3)[:0], api.ErrArg)
}

// TestTreeOfWrongTensors: at each place of the list, alone, among others that are well, and where all are alike.
func TestTreeOfWrongTensors(t *testing.T) {
	for _, bad := range wrongTensors() {
		what := fmt.Sprint(bad.Shape, len(bad.Data))
		for many := 1; many <= 4; many++ {
			refusedTree(t, "of alike ones "+what, slices.Repeat(all(bad), many), api.ErrShape)
			for i := range many {
				l := mixed(1, many, 2)
				l[i] = bad
				refusedTree(t, "of one "+what, l, api.ErrShape)
			}
		}
	}
}

// TestTreeOfOneWithWrongMany: the shape is the others', but there are too few or too many numbers.
func TestTreeOfOneWithWrongMany(t *testing.T) {
	for _, data := range [][]float64{nil, list(1), list(1, 2, 3)} {
		for i := range 3 {
			l := mixed(1, 3, 2)
			l[i].Data = data
			refusedTree(t, fmt.Sprint("of ", data, " at ", i), l, api.ErrShape)
		}
	}
}

// TestTreeOfUnlikeShapes: nothing is broadcast, and the same size is not the same shape.
func TestTreeOfUnlikeShapes(t *testing.T) {
	for i, a := range someShapes() {
		for k, b := range someShapes() {
			if slices.Equal(a, b) {
				continue
			}
			x, y := counted(a...), counted(b...)
			what := fmt.Sprint(i, a, k, b)
			refusedTree(t, what, all(x, y), api.ErrShape)
			refusedTree(t, what, all(x, x, y), api.ErrShape)
			refusedTree(t, what, all(x, y, x), api.ErrShape)
		}
	}
}
