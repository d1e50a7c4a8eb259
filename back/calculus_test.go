package back

import (
	"testing"

	"backstitch/api"
	"backstitch/eval"
)

// dual is a whole number, and how fast it grows.
type dual struct{ value, rate int }

// field is duals in a shape.
type field struct {
	shape []int
	data  []dual
}

// still is a tensor of whole numbers that do not grow.
func still(x api.Tensor) field {
	f := field{shape: x.Shape}
	for _, v := range x.Data {
		f.data = append(f.data, dual{value: int(v)})
	}
	return f
}

// at is the dual at a place of a greater shape, to which f is broadcast.
func (f field) at(place []int) dual {
	i := 0
	for k, n := range f.shape {
		i *= n
		if n > 1 {
			i += place[len(place)-len(f.shape)+k]
		}
	}
	return f.data[i]
}

// spread is a field of a shape, by what stands at each of its places.
func spread(shape []int, f func(place []int) dual) field {
	all := [][]int{nil}
	for _, n := range shape {
		var longer [][]int
		for _, place := range all {
			for i := range n {
				longer = append(longer, append(append([]int{}, place...), i))
			}
		}
		all = longer
	}
	made := field{shape: shape}
	for _, place := range all {
		made.data = append(made.data, f(place))
	}
	return made
}

func plus(a, b dual) dual { return dual{a.value + b.value, a.rate + b.rate} }

func product(a, b dual) dual { return dual{a.value * b.value, a.rate*b.value + a.value*b.rate} }

func minusOnce(a dual) dual { return dual{-a.value, -a.rate} }

// reckoned goes forward through graph g with whole numbers that grow; shapes are those of g's nodes, where they are broadcast.
func reckoned(l []api.Graph, leaves []field, g int, param field) []field {
	var made []field
	for _, n := range l[g].L {
		var in []field
		for _, i := range n.In {
			in = append(in, made[i])
		}
		made = append(made, grown(l, leaves, n, in, param))
	}
	return made
}

// grown is what a node makes of its inputs.
func grown(l []api.Graph, leaves []field, n api.Node, in []field, param field) field {
	two := func(do func(a, b dual) dual) field {
		shape := in[0].shape
		for len(shape) < len(in[1].shape) {
			shape = append([]int{1}, shape...)
		}
		shape = append([]int{}, shape...)
		for k, m := range in[1].shape {
			at := len(shape) - len(in[1].shape) + k
			shape[at] = max(shape[at], m)
		}
		return spread(shape, func(place []int) dual { return do(in[0].at(place), in[1].at(place)) })
	}
	switch n.Op {
	case api.Leaf:
		return leaves[n.No]
	case api.Const:
		return still(n.Val)
	case api.Param:
		return param
	case api.Add:
		return two(plus)
	case api.Sub:
		return two(func(a, b dual) dual { return plus(a, minusOnce(b)) })
	case api.Mul:
		return two(product)
	case api.Matmul:
		return spread(ints(in[0].shape[0], in[1].shape[1]), func(place []int) dual {
			sum := dual{}
			for k := range in[0].shape[1] {
				sum = plus(sum, product(in[0].at(ints(place[0], k)), in[1].at(ints(k, place[1]))))
			}
			return sum
		})
	case api.Sum:
		sum := dual{}
		for _, d := range in[0].data {
			sum = plus(sum, d)
		}
		return field{ints(1), []dual{sum}}
	case api.Broadcast:
		return spread(n.To, in[0].at)
	case api.Reshape:
		return field{n.To, in[0].data}
	}
	inner := reckoned(l, leaves, n.No, in[0])
	return inner[len(inner)-1]
}

// derivatives is those of the root by each number of one input, which is a leaf, or the Param at -1, times the seed.
func derivatives(a Ask, input int) []int {
	x := a.Param
	if input >= 0 {
		x = a.Leaves[input]
	}
	var rates []int
	for k := range x.Data {
		var leaves []field
		for _, t := range a.Leaves {
			leaves = append(leaves, still(t))
		}
		param := still(a.Param)
		if input >= 0 {
			leaves[input].data[k].rate = 1
		} else {
			param.data[k].rate = 1
		}
		rate := 0
		for i, d := range reckoned(a.Graphs, leaves, a.Graph, param)[a.Root].data {
			rate += d.rate * int(a.Seed.Data[i])
		}
		rates = append(rates, rate)
	}
	return rates
}

// derived wants what Run answers to be the derivatives; of noughts the sign is another's.
func derived(t *testing.T, a Ask) {
	t.Helper()
	got := Run(a)
	if got.Err != api.OK || len(got.Leaf) != len(a.Leaves) {
		t.Errorf("%s: Run = %s", text(a), short(got))
		return
	}
	each := append(list(), got.Leaf...)
	if a.Graphs[a.Graph].L[0].Op == api.Param {
		each = append(each, got.Param)
	}
	for i, x := range each {
		if i == len(got.Leaf) {
			i = -1
		}
		want := derivatives(a, i)
		if len(x.Data) != len(want) {
			t.Errorf("%s: input %v has %v, want %v", text(a), i, x, want)
			continue
		}
		for k, rate := range want {
			if x.Data[k] != float64(rate) {
				t.Errorf("%s: input %v has %v at %v, want %v", text(a), i, x.Data[k], k, rate)
			}
		}
	}
}

// whole is a tensor of small whole numbers.
func (s *seeds) whole(shape []int) api.Tensor {
	return s.tensor([]float64{-3, -2, -1, 0, 1, 2, 3}, shape)
}

// small tells whether all numbers are.
func small(l []api.Tensor) bool {
	for _, t := range l {
		for _, x := range t.Data {
			if x > 500 || x < -500 {
				return false
			}
		}
	}
	return true
}

// TestDerivatives: T5: of many graphs with small whole numbers, by each number of each leaf and of the Param, held against rates reckoned forward in whole numbers.
func TestDerivatives(t *testing.T) {
	s := seeds(5)
	kinds := []float64{-3, -2, -1, 0, 1, 2, 3}
	roots := map[int]int{}
	for range 600 {
		var leaves []api.Tensor
		for range 1 + s.below(4) {
			leaves = append(leaves, s.whole(s.shape()))
		}
		l := all(of(constant(s.whole(s.shape()))))
		for g := 1; g < 5; g++ {
			p := s.whole(s.shape())
			l = append(l, of())
			for range 1 + s.below(14) {
				n := s.node(kinds, g, len(l[g].L), len(leaves))
				for n.Op == api.Neg || n.Op == api.Div || n.Op == api.Exp || n.Op == api.Log || n.Op == api.Relu {
					n = s.node(kinds, g, len(l[g].L), len(leaves))
				}
				l[g].L = append(l[g].L, n)
				made, e := eval.All(l, leaves, g, p)
				if e != api.OK || !small(made) {
					l[g].L = l[g].L[:len(l[g].L)-1]
					continue
				}
				a := asking(l, leaves, s.whole(made[len(made)-1].Shape)).graph(g).param(p)
				derived(t, a)
				roots[n.Op]++
			}
			if len(l[g].L) == 0 {
				l[g] = of(leaf(0))
			}
		}
	}
	for _, o := range ints(api.Leaf, api.Const, api.Param, api.Add, api.Sub, api.Mul, api.Matmul, api.Sum, api.Broadcast, api.Reshape, api.Call) {
		if roots[o] < 50 {
			t.Errorf("too few roots of operator %v: %v", o, roots[o])
		}
	}
}

// TestPowers: x to the 2nd, 3rd and so on, by nodes and by Calls.
func TestPowers(t *testing.T) {
	for base := -3; base <= 3; base++ {
		x := float64(base)
		g, power, rate := of(leaf(0)), x, 1.0
		for many := 2; many < 12; many++ {
			g.L = append(g.L, node(api.Mul, many-2, 0))
			rate = rate*x + power
			power *= x
			comes(t, text(base, " to the ", many), asking(all(g), list(single(x)), single(1)), none(), single(rate))
			within := of(append([]api.Node{param()}, g.L[1:]...)...)
			comes(t, text(base, " to the ", many, " by a Call"), asking(all(of(leaf(0), call(1, 0)), within), list(single(x)), single(1)), none(), single(rate))
		}
	}
}
