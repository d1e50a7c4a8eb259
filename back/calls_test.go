package back

import (
	"slices"
	"testing"

	"backstitch/api"
)

// Graphs that others Call.
func square() api.Graph { return of(param(), node(api.Mul, 0, 0)) }

func double() api.Graph { return of(param(), node(api.Add, 0, 0)) }

// minus is a graph of a Param less leaf 1.
func minus() api.Graph { return of(param(), leaf(1), node(api.Sub, 0, 1)) }

// fixed is a graph without a Param: leaf 0's negative.
func fixed() api.Graph { return of(leaf(0), node(api.Neg, 0)) }

// TestCalls: what goes back through a Call is what goes back through its graph, from its last node on.
func TestCalls(t *testing.T) {
	x, y := row(2, 3), single(10)
	seed := row(1, 100)
	nx, ny := row(0, 0), single(0)
	for _, c := range []struct {
		what string
		l    []api.Graph
		want []api.Tensor
	}{
		{"one Call", all(of(leaf(0), call(1, 0)), square()), list(row(4, 600), ny)},
		{"a Call of a Call", all(of(leaf(0), call(1, 0)), of(param(), call(2, 0), call(2, 1)), square()), list(row(4*8, 100*4*27), ny)},
		{"often, with unlike inputs", all(of(leaf(0), call(1, 0), call(1, 1), call(1, 2)), square()), list(row(8*128, 100*8*2187), ny)},
		{"often, with unlike seeds", all(of(leaf(0), call(1, 0), call(1, 0), call(1, 0), node(api.Mul, 1, 2), node(api.Mul, 4, 3)), square()), list(row(6*32, 100*6*243), ny)},
		{"often, some not reached", all(of(leaf(0), call(1, 0), call(1, 0), call(1, 2), node(api.Neg, 1)), square()), list(row(-4, -600), ny)},
		{"two graphs", all(of(leaf(0), call(1, 0), call(2, 1)), minus(), square()), list(row(-16, -1400), single(16+1400))},
		{"two graphs, the other way", all(of(leaf(0), call(2, 0), call(1, 1)), minus(), square()), list(row(4, 600), single(-101))},
		{"without a Param", all(of(leaf(1), call(1, 0)), fixed()), list(row(-1, -100), ny)},
		{"without a Param, of its own leaf", all(of(leaf(0), call(1, 0)), fixed()), list(row(-1, -100), ny)},
		{"without a Param, beside its input", all(of(leaf(1), call(1, 0), node(api.Mul, 0, 1)), fixed()), list(row(-10, -1000), single(-2-300))},
		{"without a Param, within a Call", all(of(leaf(1), call(1, 0)), of(param(), call(2, 0), node(api.Mul, 0, 1)), fixed()), list(row(-10, -1000), single(-2-300))},
		{"a Param alone", all(of(leaf(0), call(1, 0)), of(param())), list(seed, ny)},
		{"a Leaf alone", all(of(leaf(1), call(1, 0)), of(leaf(0))), list(seed, ny)},
		{"a constant alone", all(of(leaf(0), call(1, 0)), of(constant(row(5, 6)))), list(nx, ny)},
		{"a Param that is not reached", all(of(leaf(0), call(1, 0)), of(param(), leaf(0))), list(seed, ny)},
		{"a Param that some use", all(of(leaf(0), call(1, 0)), of(param(), node(api.Mul, 0, 0), leaf(1), constant(row(7, 8)))), list(nx, ny)},
		{"a node above the last one's inputs", all(of(leaf(0), call(1, 0)), of(param(), node(api.Mul, 0, 0), node(api.Neg, 1), node(api.Add, 0, 0))), list(row(2, 200), ny)},
		{"of one node twice", all(of(leaf(0), call(1, 0), node(api.Mul, 1, 1)), double()), list(row(16, 2400), ny)},
		{"of another shape", all(of(leaf(0), call(1, 0), node(api.Mul, 0, 1)), of(param(), node(api.Sum, 0))), list(row(5+302, 500+302), ny)},
		{"an input of another shape", all(of(leaf(1), call(1, 0)), of(param(), to(api.Broadcast, 0, 2))), list(nx, single(101))},
		{"the same leaf here and there", all(of(leaf(1), leaf(0), call(1, 1), node(api.Mul, 2, 0)), minus()), list(row(10, 1000), single(-8-700-10-1000))},
		{"one leaf in many Calls", all(of(leaf(0), call(1, 0), call(1, 1), call(1, 2)), minus()), list(seed, single(-303))},
	} {
		comes(t, c.what, asking(c.l, list(x, y), seed), none(), c.want...)
		twice := moved(c.l)
		comes(t, c.what+", behind itself", asking(twice, list(x, y), seed).graph(len(c.l)), none(), c.want...)
	}
}

// moved is graphs twice, of which the later ones Call each other as the first ones do.
func moved(l []api.Graph) []api.Graph {
	twice := slices.Clone(l)
	for _, g := range l {
		later := slices.Clone(g.L)
		for i, n := range later {
			if n.Op == api.Call {
				later[i].No = n.No + len(l)
			}
		}
		twice = append(twice, of(later...))
	}
	return twice
}

// TestCallsOfOneGraph: of each number of Calls, each with an input and a seed of its own.
func TestCallsOfOneGraph(t *testing.T) {
	for many := 1; many <= 50; many++ {
		g := of(leaf(0))
		for i := range many {
			g.L = append(g.L, constant(single(float64(i+1))), node(api.Mul, 0, 2*i+1))
		}
		first := len(g.L)
		want := 0.0
		for i := range many {
			g.L = append(g.L, hooked(call(1, 2*i+2), scale(float64(i+3))))
			want += float64(i+3) * 2 * 5 * float64((i+1)*(i+1))
		}
		g.L = gathering(g.L, first, many)
		comes(t, text(many, " Calls"), asking(all(g, square()), list(single(5)), single(1)), none(), single(want))
	}
}

// TestParam: of the graph that is asked; one that is not reached, one that there is not, one in what is Called.
func TestParam(t *testing.T) {
	x, p := row(2, 3), row(5, 7)
	seed := row(1, 100)
	no := row(0, 0)
	l := all(
		of(param(), leaf(0), node(api.Mul, 0, 1), node(api.Mul, 2, 0)),
		of(param(), leaf(0)),
		of(leaf(0), node(api.Neg, 0)),
		of(leaf(0), call(0, 0)),
		of(param(), call(2, 0)),
		of(param(), call(1, 0)),
		of(param(), call(0, 0)),
		of(param(), node(api.Add, 0, 0), call(0, 1)),
		of(param()),
	)
	a := asking(l, list(x), seed).param(p)
	comes(t, "reached", a, row(2*5*2, 100*2*7*3), row(25, 4900))
	comes(t, "not reached", a.graph(1), no, seed)
	comes(t, "none", a.graph(2), none(), row(-1, -100))
	comes(t, "in what is Called alone", a.graph(3), none(), row(3*4, 100*3*9))
	comes(t, "a Call without one", a.graph(4), no, row(-1, -100))
	comes(t, "not reached in what is Called", a.graph(5), no, seed)
	comes(t, "handed on", a.graph(6), row(2*5*2, 100*2*7*3), row(25, 4900))
	comes(t, "handed on twice as great", a.graph(7), row(2*2*10*2, 100*2*2*14*3), row(100, 19600))
	comes(t, "alone", a.graph(8), seed, no)
	comes(t, "of another shape", asking(l, list(x), seed).param(single(4)), single(2*4*2+100*2*4*3), row(16, 1600))
	square := asking(l, list(x), tens(ints(2, 2), 1, 2, 3, 4)).param(tens(ints(2, 1), 5, 7))
	comes(t, "of a column", square, tens(ints(2, 1), 2*5*(2+2*3), 2*7*(3*2+4*3)), row(25+3*49, 50+4*49))
}

// TestNoughtsOfACallWithoutAParam: its input is reached, and its gradient is noughts of its own shape, which hooks may change.
func TestNoughtsOfACallWithoutAParam(t *testing.T) {
	x, y := row(2, 3), tens(ints(2, 1), 10, 20)
	graphs := func(n api.Node) []api.Graph { return all(of(n, call(1, 0)), fixed()) }
	leaves := list(x, y)
	comes(t, "its input", asking(graphs(leaf(1)), leaves, row(less, 5)), none(), row(0, -5), filled(0, 2, 1))
	comes(t, "noughts without a sign", asking(graphs(hooked(leaf(1), scale(1))), leaves, row(less, less)), none(), row(0, 0), filled(0, 2, 1))
	comes(t, "scaled without end", asking(graphs(hooked(leaf(1), scale(inf))), leaves, row(1, 1)), none(), row(-1, -1), filled(nan, 2, 1))
	comes(t, "scaled by less than 0, and the Call's own", asking(graphs(hooked(leaf(1), scale(-1))), leaves, row(1, 1)), none(), row(-1, -1), filled(0, 2, 1))
	comes(t, "a Param", asking(graphs(param()), leaves, row(1, 1)).param(y), filled(0, 2, 1), row(-1, -1), filled(0, 2, 1))
	comes(t, "a Param, scaled by less than 0", asking(graphs(hooked(param(), scale(-1))), leaves, row(1, 1)).param(y), filled(less, 2, 1), row(-1, -1), filled(0, 2, 1))
	fails(t, "scaled without end, and asked", asking(graphs(hooked(leaf(1), scale(inf), finite())), leaves, row(1, 1)), 0, api.ErrHook)
}

// TestHowDeep: as deep as Calls are is enough, one less is not; what is less deep may be behind.
func TestHowDeep(t *testing.T) {
	for calls := range api.MaxDepth + 1 {
		l := chain(calls)
		a := asking(l, list(row(1, 2)), row(1, -2)).param(row(3, 4))
		for deep := range api.MaxDepth + 1 {
			what := text(calls, " Calls, ", deep, " deep")
			if deep < calls {
				fails(t, what, a.deep(deep), 1, api.ErrDepth)
				continue
			}
			many := float64(calls + 1)
			comes(t, what, a.deep(deep), row(many, -2*many), row(0, 0))
		}
	}
}

// TestDeepIsOfEachWay: Calls beside each other are not within each other, and one that is not reached is not asked how deep it is.
func TestDeepIsOfEachWay(t *testing.T) {
	x := single(3)
	l := all(of(leaf(0), call(1, 0), call(1, 1), call(1, 2)), of(param(), call(2, 0), call(2, 1)), double())
	comes(t, "two deep", asking(l, list(x), single(1)).deep(2), none(), single(64))
	fails(t, "one deep", asking(l, list(x), single(1)).deep(1), 3, api.ErrDepth)
	fails(t, "none deep", asking(l, list(x), single(1)).deep(0), 3, api.ErrDepth)
	comes(t, "not reached", asking(l, list(x), single(1)).from(0).deep(0), none(), single(1))
	aside := all(of(leaf(0), call(1, 0)), of(param(), call(2, 0), node(api.Neg, 0)), double())
	comes(t, "not reached within", asking(aside, list(x), single(1)).deep(1), none(), single(-1))
	unlike := all(of(leaf(0), call(1, 0), call(2, 1)), of(param(), call(2, 0)), double())
	fails(t, "the deeper one below", asking(unlike, list(x), single(1)).deep(1), 1, api.ErrDepth)
	fails(t, "the deeper one above", asking(all(of(leaf(0), call(2, 0), call(1, 1)), unlike[1], unlike[2]), list(x), single(1)).deep(1), 2, api.ErrDepth)
}
