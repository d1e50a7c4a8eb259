package op

import (
	"slices"
	"testing"

	"backstitch/api"
)

// agree wants of Shape the error that Value has, and the shape of what it answers.
func agree(t *testing.T, n api.Node, in []api.Tensor) api.Errno {
	t.Helper()
	x, e := Value(n, in)
	s, f := Shape(n, shapesOf(in))
	if e != f || !slices.Equal(s, x.Shape) {
		t.Errorf("%s of %v to %v: Shape = %v, %v; Value has %v, %v", Name(n.Op), shapesOf(in), n.To, s, f, x.Shape, e)
	}
	return e
}

// upTo answers all shapes of at most that many of these numbers.
func upTo(places int, numbers ...int) [][]int {
	all := [][]int{nil}
	from := 0
	for range places {
		end := len(all)
		for _, s := range all[from:end] {
			for _, x := range numbers {
				all = append(all, append(slices.Clone(s), x))
			}
		}
		from = end
	}
	return all
}

// varied is shapes, small ones, wrong ones and great ones among them.
func varied() [][]int {
	all := append(upTo(3, 1, 2, 3), wrongShapes()...)
	return append(all, ints(2, 1, 3, 1), ints(1, 1, 1, 1), ints(64, 1), ints(1, 64), ints(64), ints(65), ints(65, 1), ints(1, 65), ints(64, 2), ints(2, 65), ints(2, 64),
		ints(0, 1), ints(1, 0), ints(4096), ints(4096, 1), ints(1, 4096), ints(64, 64), ints(2048, 2), ints(8, 8, 8, 8))
}

// TestShapeAgreesWithValue: of each operator, whatever shapes.
func TestShapeAgreesWithValue(t *testing.T) {
	seen := map[int]map[api.Errno]int{}
	note := func(op int, e api.Errno) {
		if seen[op] == nil {
			seen[op] = map[api.Errno]int{}
		}
		seen[op][e]++
	}
	for _, r := range varied() {
		for op := api.Leaf - 1; op <= api.Call+1; op++ {
			note(op, agree(t, with(of(r)), nil))
			note(op, agree(t, node(op), ins(of(r))))
			for _, s := range varied() {
				if op == api.Broadcast || op == api.Reshape {
					note(op, agree(t, to(op, s...), ins(of(r))))
				} else {
					note(op, agree(t, node(op), ins(of(r), of(s))))
				}
			}
		}
	}
	for op, wanted := range map[int][]api.Errno{
		api.Leaf:      {api.ErrOp},
		api.Call:      {api.ErrOp},
		api.Add:       {api.OK, api.ErrArg, api.ErrShape, api.ErrSize},
		api.Neg:       {api.OK, api.ErrArg, api.ErrShape},
		api.Matmul:    {api.OK, api.ErrArg, api.ErrShape, api.ErrSize},
		api.Sum:       {api.OK, api.ErrArg, api.ErrShape},
		api.Broadcast: {api.OK, api.ErrShape},
		api.Reshape:   {api.OK, api.ErrShape, api.ErrSize},
	} {
		for _, e := range wanted {
			if seen[op][e] == 0 {
				t.Errorf("%s: no answer had %v", Name(op), e)
			}
		}
	}
}

// TestShapeDoesNoWork: shapes are reckoned without their numbers, however often.
func TestShapeDoesNoWork(t *testing.T) {
	in := [][]int{{64, 64}, {64, 64}}
	if got := testing.AllocsPerRun(10, func() { Shape(node(api.Matmul), in) }); got > 10 {
		t.Errorf("Shape of a product took room %v times", got)
	}
}
