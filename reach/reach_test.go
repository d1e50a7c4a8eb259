package reach

import (
	"math"
	"slices"
	"testing"

	"backstitch/api"
)

// example is a graph, a root, the nodes that it reaches and who uses them.
type example struct {
	what    string
	g       api.Graph
	root    int
	reached []int
	users   map[int][]Use
}

func (c example) ask(t *testing.T) {
	t.Helper()
	reached := make([]bool, len(c.g.L))
	for _, at := range c.reached {
		reached[at] = true
	}
	users := make([][]Use, len(c.g.L))
	for at, l := range c.users {
		users[at] = l
	}
	for range 2 {
		answers(t, c.what, c.g, c.root, reached, users)
	}
}

func TestRoots(t *testing.T) {
	// 0 and 1 without inputs; 2 of 1 and 0; 3 of 2; 4 of 2 and 3; 5 of 1
	g := graph(nil, nil, ints(1, 0), ints(2), ints(2, 3), ints(1))
	for _, c := range []example{
		{"the last node", g, 5, ints(1, 5), map[int][]Use{1: {{5, 0}}}},
		{"one in the middle", g, 4, ints(0, 1, 2, 3, 4), map[int][]Use{0: {{2, 1}}, 1: {{2, 0}}, 2: {{4, 0}, {3, 0}}, 3: {{4, 1}}}},
		{"one below it", g, 3, ints(0, 1, 2, 3), map[int][]Use{0: {{2, 1}}, 1: {{2, 0}}, 2: {{3, 0}}}},
		{"one with two inputs", g, 2, ints(0, 1, 2), map[int][]Use{0: {{2, 1}}, 1: {{2, 0}}}},
		{"one without inputs", g, 1, ints(1), nil},
		{"the first node", g, 0, ints(0), nil},
		{"the only node", graph(nil), 0, ints(0), nil},
		{"the last node, without inputs", graph(nil, ints(0), nil), 2, ints(2), nil},
	} {
		c.ask(t)
	}
}

// TestOutside: what the root does not reach is not told, and does not use.
func TestOutside(t *testing.T) {
	for _, c := range []example{
		{"a user behind the root", graph(nil, ints(0), ints(0, 0), ints(1)), 1, ints(0, 1), map[int][]Use{0: {{1, 0}}}},
		{"a user below the root", graph(nil, ints(0, 0), ints(0)), 2, ints(0, 2), map[int][]Use{0: {{2, 0}}}},
		{"users on both sides", graph(nil, ints(0), ints(0), ints(0)), 2, ints(0, 2), map[int][]Use{0: {{2, 0}}}},
		{"a user of the root", graph(nil, ints(0), ints(1, 1)), 1, ints(0, 1), map[int][]Use{0: {{1, 0}}}},
		{"users of users that are not reached", graph(nil, ints(0), ints(1), ints(0)), 3, ints(0, 3), map[int][]Use{0: {{3, 0}}}},
		{"nothing but the root", graph(nil, ints(0), ints(1), nil), 3, ints(3), nil},
		{"two parts, the one", graph(nil, nil, ints(0), ints(1)), 3, ints(1, 3), map[int][]Use{1: {{3, 0}}}},
		{"two parts, the other one", graph(nil, nil, ints(0), ints(1)), 2, ints(0, 2), map[int][]Use{0: {{2, 0}}}},
	} {
		c.ask(t)
	}
}

// TestOrder: the greatest node first, then by input.
func TestOrder(t *testing.T) {
	for _, c := range []example{
		{"the document's", of(node(api.Leaf), node(api.Add, 0, 0)), 1, ints(0, 1), map[int][]Use{0: {{1, 0}, {1, 1}}}},
		{"several users", graph(nil, ints(0), ints(0), ints(0), ints(1, 2, 3)), 4, ints(0, 1, 2, 3, 4), map[int][]Use{0: {{3, 0}, {2, 0}, {1, 0}}, 1: {{4, 0}}, 2: {{4, 1}}, 3: {{4, 2}}}},
		{"the root as well", graph(nil, ints(0), ints(1, 0)), 2, ints(0, 1, 2), map[int][]Use{0: {{2, 1}, {1, 0}}, 1: {{2, 0}}}},
		{"many times", graph(nil, nil, ints(0, 1, 0, 0, 1)), 2, ints(0, 1, 2), map[int][]Use{0: {{2, 0}, {2, 2}, {2, 3}}, 1: {{2, 1}, {2, 4}}}},
		{"many times by several", graph(nil, ints(0, 0), ints(0, 1, 0)), 2, ints(0, 1, 2), map[int][]Use{0: {{2, 0}, {2, 2}, {1, 0}, {1, 1}}, 1: {{2, 1}}}},
		{"the greater input first", graph(nil, nil, nil, ints(2, 1, 0)), 3, ints(0, 1, 2, 3), map[int][]Use{0: {{3, 2}}, 1: {{3, 1}}, 2: {{3, 0}}}},
		{"found late, used early", graph(nil, ints(0), ints(0), ints(2, 1)), 3, ints(0, 1, 2, 3), map[int][]Use{0: {{2, 0}, {1, 0}}, 1: {{3, 1}}, 2: {{3, 0}}}},
	} {
		c.ask(t)
	}
}

func TestChain(t *testing.T) {
	g := chain(9)
	for root := range 9 {
		c := example{what: "a chain", g: g, root: root, users: map[int][]Use{}}
		for at := range root + 1 {
			c.reached = append(c.reached, at)
			if at < root {
				c.users[at] = []Use{{at + 1, 0}}
			}
		}
		c.ask(t)
	}
}

// TestOperators: neither what a node does is asked, nor how many inputs that wants, nor all else that a node has.
func TestOperators(t *testing.T) {
	want := example{what: "plain", g: graph(nil, ints(0, 0, 0), ints(1, 0)), root: 2, reached: ints(0, 1, 2), users: map[int][]Use{0: {{2, 1}, {1, 0}, {1, 1}, {1, 2}}, 1: {{2, 0}}}}
	want.ask(t)
	ops := ints(math.MinInt, -1, api.Call+1, 77, math.MaxInt)
	for op := range api.Call + 1 {
		ops = append(ops, op)
	}
	for _, op := range ops {
		c := want
		c.what = text("operator ", op)
		c.g = of(node(op), node(op, 0, 0, 0), node(op, 1, 0))
		c.ask(t)
	}
	for _, no := range ints(math.MinInt, -1, 0, 1, 2, math.MaxInt) {
		c := want
		c.what = text("number ", no)
		c.g = of(node(api.Leaf), node(api.Call, 0, 0, 0), node(api.Sum, 1, 0))
		for i := range c.g.L {
			n := &c.g.L[i]
			n.No, n.To, n.Val, n.Hooks = no, ints(no), api.Tensor{Shape: ints(no)}, []api.Hook{{Do: no, X: math.NaN()}}
		}
		c.ask(t)
	}
}

// lists is all lists of up to two numbers from least on and below end.
func lists(least, end int) [][]int {
	l := [][]int{nil}
	for a := least; a < end; a++ {
		l = append(l, ints(a))
		for b := least; b < end; b++ {
			l = append(l, ints(a, b))
		}
	}
	return l
}

// TestAllSmall: each well graph of up to five nodes with up to two inputs, from each root.
func TestAllSmall(t *testing.T) {
	all := []api.Graph{{}}
	for at := range 5 {
		var next []api.Graph
		for _, g := range all {
			for _, in := range lists(0, at) {
				next = append(next, of(append(slices.Clone(g.L), plain(in...))...))
			}
		}
		all = next
		for _, g := range all {
			for root := range g.L {
				asSpelled(t, text(g), g, root)
			}
		}
	}
	if len(all) != 1*3*7*13*21 {
		t.Errorf("%v graphs", len(all))
	}
}

func TestSome(t *testing.T) {
	s := seeds(11)
	for i := range 300 {
		g := s.some(1+s.below(40), 1+i%6)
		for root := range g.L {
			asSpelled(t, text("graph ", i), g, root)
		}
	}
}

// TestWaiting: who goes on once all who use it have gone: from the root on all that is reached goes, each once.
func TestWaiting(t *testing.T) {
	s := seeds(111)
	for i := range 100 {
		g := s.some(1+s.below(100), 3)
		root := s.below(len(g.L))
		left, gone := Counts(g, root), make([]bool, len(g.L))
		for todo := ints(root); len(todo) > 0; todo = todo[1:] {
			at := todo[0]
			if gone[at] {
				t.Errorf("graph %v: node %v goes twice", i, at)
			}
			gone[at] = true
			for _, in := range g.L[at].In {
				if left[in]--; left[in] == 0 {
					todo = append(todo, in)
				}
			}
		}
		if want := From(g, root); !slices.Equal(gone, want) {
			t.Errorf("graph %v: %v went, want %v", i, gone, want)
		}
	}
}
