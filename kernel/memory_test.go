package kernel

import (
	"slices"
	"testing"

	"backstitch/api"
)

const spare = 4

// roomy answers a list with marked spare room behind it.
func roomy[N int | float64](l ...N) []N {
	return append(append(make([]N, 0, len(l)+spare), l...), 77, 78, 79, 80)[:len(l)]
}

// fill writes over a tensor's lists and their spare room.
func fill(x api.Tensor) {
	for i := range x.Shape[:cap(x.Shape)] {
		x.Shape[:cap(x.Shape)][i] = 99
	}
	for i := range x.Data[:cap(x.Data)] {
		x.Data[:cap(x.Data)][i] = 99
	}
}

// call is a function with its arguments but for these lists: a tensor of shape (2, 2), and a shape.
type call struct {
	name string
	do   func(a api.Tensor, s []int) (api.Tensor, api.Errno)
	s    []int
	want api.Tensor
}

// calls is all functions, at arguments where an answer could share most: nothing is broadcast, the shape is the tensor's own.
func calls() []call {
	two := func(op int) func(a api.Tensor, s []int) (api.Tensor, api.Errno) {
		return func(a api.Tensor, s []int) (api.Tensor, api.Errno) {
			return Two(op, a, api.Tensor{Shape: s, Data: a.Data[:4]})
		}
	}
	one := func(op int) func(a api.Tensor, s []int) (api.Tensor, api.Errno) {
		return func(a api.Tensor, s []int) (api.Tensor, api.Errno) { return One(op, a) }
	}
	itself := tens(ints(2, 2), 1, 2, 3, 4)
	return []call{
		{"Add", two(api.Add), ints(2, 2), tens(ints(2, 2), 2, 4, 6, 8)},
		{"Sub", two(api.Sub), ints(2, 2), tens(ints(2, 2), 0, 0, 0, 0)},
		{"Mul", two(api.Mul), ints(2, 2), tens(ints(2, 2), 1, 4, 9, 16)},
		{"Div", two(api.Div), ints(2, 2), tens(ints(2, 2), 1, 1, 1, 1)},
		{"Neg", one(api.Neg), nil, tens(ints(2, 2), -1, -2, -3, -4)},
		{"Relu", one(api.Relu), nil, itself},
		{"Spread", Spread, ints(2, 2), itself},
		{"Spread further", Spread, ints(1, 2, 2), tens(ints(1, 2, 2), 1, 2, 3, 4)},
		{"Gather", Gather, ints(2, 2), itself},
		{"Gather to a column", Gather, ints(2, 1), tens(ints(2, 1), 3, 7)},
		{"Reshape", Reshape, ints(2, 2), itself},
		{"Reshape to a row", Reshape, ints(4), tens(ints(4), 1, 2, 3, 4)},
	}
}

// TestMemoryIsApart: R4: what is handed in stays as it is, spare room too, and an answer is new memory.
func TestMemoryIsApart(t *testing.T) {
	for _, c := range calls() {
		shape, data, s := roomy(2, 2), roomy(1.0, 2, 3, 4), roomy(c.s...)
		a := api.Tensor{Shape: shape, Data: data}
		got, e := c.do(a, s)
		check(t, c.name, got, e, c.want, api.OK)
		fill(got)
		if l := shape[:len(shape)+spare]; !slices.Equal(l, ints(2, 2, 77, 78, 79, 80)) {
			t.Errorf("%s: the tensor's shape became %v", c.name, l)
		}
		if l := data[:len(data)+spare]; !slices.Equal(l, list(1, 2, 3, 4, 77, 78, 79, 80)) {
			t.Errorf("%s: the numbers became %v", c.name, l)
		}
		if l := s[:len(s)+spare]; !slices.Equal(l, append(slices.Clone(c.s), 77, 78, 79, 80)) {
			t.Errorf("%s: the shape became %v", c.name, l)
		}
		again, e := c.do(a, s)
		check(t, c.name+" again", again, e, c.want, api.OK)
	}
}

// TestNothingIsKept: R4: what is written into a list that was handed in is not seen in an answer.
func TestNothingIsKept(t *testing.T) {
	for _, c := range calls() {
		shape, data, s := roomy(2, 2), roomy(1.0, 2, 3, 4), roomy(c.s...)
		got, e := c.do(api.Tensor{Shape: shape, Data: data}, s)
		fill(api.Tensor{Shape: shape, Data: data})
		fill(api.Tensor{Shape: s})
		check(t, c.name, got, e, c.want, api.OK)
	}
}

// TestRefusedChangesNothing: R3, R4: a call that is refused leaves its arguments as they were.
func TestRefusedChangesNothing(t *testing.T) {
	shape, data, s := roomy(2, 2), roomy(1.0, 2, 3, 4), roomy(3, 5)
	a := api.Tensor{Shape: shape, Data: data}
	Two(api.Add, a, api.Tensor{Shape: s, Data: data})
	Two(api.Add, a, tens(ints(3), 1, 2, 3))
	Two(api.Neg, a, a)
	One(api.Add, a)
	One(api.Neg, api.Tensor{Shape: s, Data: data})
	Spread(a, s)
	Gather(a, s)
	Reshape(a, s)
	if !slices.Equal(shape[:6], ints(2, 2, 77, 78, 79, 80)) || !slices.Equal(s[:6], ints(3, 5, 77, 78, 79, 80)) {
		t.Errorf("shapes became %v, %v", shape[:6], s[:6])
	}
	if !slices.Equal(data[:8], list(1, 2, 3, 4, 77, 78, 79, 80)) {
		t.Errorf("numbers became %v", data[:8])
	}
}
