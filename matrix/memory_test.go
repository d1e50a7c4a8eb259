package matrix

import (
	"slices"
	"testing"

	"backstitch/api"
)

const spare = 4

// roomy answers a list with marked spare room behind it.
func roomy[N int | float64](l ...N) []N {
	return append(append(make([]N, 0, len(l)+spare), l...), 77, 78, 79, 80)[:len(l)]
}

// untouched tells whether a list that roomy made from l, and its spare room, are as they were.
func untouched[N int | float64](made []N, l ...N) bool {
	return slices.Equal(made[:len(l)+spare], append(l, 77, 78, 79, 80))
}

// fill writes over a tensor's lists and their spare room.
func fill(x api.Tensor) {
	for i := range x.Shape[:cap(x.Shape)] {
		x.Shape[:cap(x.Shape)][i] = 99
	}
	for i := range x.Data[:cap(x.Data)] {
		x.Data[:cap(x.Data)][i] = 99
	}
}

// call is a function that is handed a tensor of four numbers, in places where its answer could share most.
type call struct {
	name string
	s    []int
	do   func(a api.Tensor) (api.Tensor, api.Errno)
	want api.Tensor
}

func calls() []call {
	self := func(a api.Tensor) (api.Tensor, api.Errno) { return Mul(a, a) }
	byOne := func(a api.Tensor) (api.Tensor, api.Errno) { return Mul(a, tens(ints(1, 1), 1)) }
	oneBy := func(a api.Tensor) (api.Tensor, api.Errno) { return Mul(tens(ints(1, 1), 1), a) }
	byUnit := func(a api.Tensor) (api.Tensor, api.Errno) { return Mul(a, tens(ints(2, 2), 1, 0, 0, 1)) }
	return []call{
		{"Mul by itself", ints(2, 2), self, tens(ints(2, 2), 7, 10, 15, 22)},
		{"Mul by the unit", ints(2, 2), byUnit, tens(ints(2, 2), 1, 2, 3, 4)},
		{"Mul by one", ints(4, 1), byOne, tens(ints(4, 1), 1, 2, 3, 4)},
		{"Mul of one", ints(1, 4), oneBy, tens(ints(1, 4), 1, 2, 3, 4)},
		{"Turn", ints(2, 2), Turn, tens(ints(2, 2), 1, 3, 2, 4)},
		{"Turn of a row", ints(1, 4), Turn, tens(ints(4, 1), 1, 2, 3, 4)},
		{"Turn of a column", ints(4, 1), Turn, tens(ints(1, 4), 1, 2, 3, 4)},
		{"Sum", ints(4), Sum, tens(ints(1), 10)},
		{"Sum of a matrix", ints(2, 2), Sum, tens(ints(1), 10)},
	}
}

// TestMemoryIsApart: R4: what is handed in stays as it is, spare room too, and an answer is new memory.
func TestMemoryIsApart(t *testing.T) {
	for _, c := range calls() {
		s, data := roomy(c.s...), roomy(1.0, 2, 3, 4)
		a := api.Tensor{Shape: s, Data: data}
		got, e := c.do(a)
		check(t, c.name, got, e, c.want)
		fill(got)
		if !untouched(s, slices.Clone(c.s)...) || !untouched(data, 1, 2, 3, 4) {
			t.Errorf("%s: what was handed in became %v, %v", c.name, s[:cap(s)], data[:cap(data)])
		}
		again, e := c.do(a)
		check(t, c.name+" again", again, e, c.want)
	}
}

// TestOneNumberIsApart: R4: where the answer has the very number, in the very shape.
func TestOneNumberIsApart(t *testing.T) {
	s, data, short := roomy(1, 1), roomy(3.0), roomy(1)
	got, _ := Turn(api.Tensor{Shape: s, Data: data})
	sum, _ := Sum(api.Tensor{Shape: short, Data: data})
	fill(got)
	fill(sum)
	if !untouched(s, 1, 1) || !untouched(data, 3) || !untouched(short, 1) {
		t.Errorf("what was handed in became %v, %v, %v", s, data, short)
	}
}

// TestNothingIsKept: R4: what is written into a list that was handed in is not seen in an answer.
func TestNothingIsKept(t *testing.T) {
	for _, c := range calls() {
		a := api.Tensor{Shape: roomy(c.s...), Data: roomy(1.0, 2, 3, 4)}
		got, e := c.do(a)
		fill(a)
		check(t, c.name, got, e, c.want)
	}
}

// TestAnswersAreApart: R4, R5: no two answers share memory, and none hangs on calls before it.
func TestAnswersAreApart(t *testing.T) {
	for _, c := range calls() {
		a := api.Tensor{Shape: c.s, Data: list(1, 2, 3, 4)}
		first, _ := c.do(a)
		second, e := c.do(a)
		fill(first)
		check(t, c.name, second, e, c.want)
	}
}

// TestRefusedChangesNothing: R3, R4: a call that is refused leaves its arguments as they were.
func TestRefusedChangesNothing(t *testing.T) {
	s, tall, short, data := roomy(2, 2), roomy(4, 1), roomy(3), roomy(1.0, 2, 3, 4)
	a := api.Tensor{Shape: s, Data: data}
	bad := api.Tensor{Shape: short, Data: data}
	Mul(a, bad)
	Mul(bad, a)
	Mul(a, counted(3, 2))
	Mul(api.Tensor{Shape: tall, Data: data}, counted(1, 4096))
	Turn(bad)
	Sum(bad)
	if !untouched(s, 2, 2) || !untouched(tall, 4, 1) || !untouched(short, 3) || !untouched(data, 1, 2, 3, 4) {
		t.Errorf("what was handed in became %v, %v, %v, %v", s[:cap(s)], tall[:cap(tall)], short[:cap(short)], data[:cap(data)])
	}
}
