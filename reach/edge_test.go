package reach

import (
	"math"
	"slices"
	"testing"

	"backstitch/api"
)

// outside is roots that a graph of that many nodes does not have.
func outside(many int) []int {
	return ints(math.MinInt, math.MinInt+1, -1<<32, -2, -1, many, many+1, 1<<32, 1<<32+many-1, math.MaxInt-1, math.MaxInt)
}

func TestNoSuchRoot(t *testing.T) {
	for _, g := range []api.Graph{{}, of(), graph(nil), graph(nil, ints(0)), chain(7), alone(7), dense(api.MaxNodes)} {
		for _, root := range outside(len(g.L)) {
			none(t, text(len(g.L), " nodes"), g, root)
		}
	}
}

func TestNoNodes(t *testing.T) {
	for _, root := range ints(0, 1, -1) {
		none(t, "a zero graph", api.Graph{}, root)
		none(t, "no nodes", api.Graph{L: []api.Node{}}, root)
		none(t, "nodes in the spare room alone", api.Graph{L: chain(5).L[:0]}, root)
	}
}

// TestManyNodes: there is no limit, also past MaxNodes.
func TestManyNodes(t *testing.T) {
	for _, many := range ints(1, 2, api.MaxNodes-1, api.MaxNodes, api.MaxNodes+1, 2*api.MaxNodes+3) {
		s := seeds(many)
		for _, root := range ints(0, many/2, many-1) {
			asSpelled(t, text("a chain of ", many), chain(many), root)
			asSpelled(t, text(many, " alone"), alone(many), root)
			asSpelled(t, text("some ", many), s.some(many, 2), root)
		}
	}
	asSpelled(t, "all of all", dense(60), 59)
	asSpelled(t, "all of all, from the middle", dense(60), 30)
}

// TestFarMoreNodes: it goes through each node and each input a few times, not more, and not within itself.
func TestFarMoreNodes(t *testing.T) {
	const many = 1 << 18
	g := chain(many)
	users := make([][]Use, many)
	for at := range many - 1 {
		users[at] = []Use{{at + 1, 0}}
	}
	reached := slices.Repeat([]bool{true}, many)
	longEqual(t, "a long chain", g, many-1, reached, users)

	g = graph(nil, slices.Repeat(ints(0), many))
	users = make([][]Use, 2)
	for slot := range many {
		users[0] = append(users[0], Use{1, slot})
	}
	longEqual(t, "a node with many inputs", g, 1, reached[:2], users)

	g = api.Graph{L: slices.Repeat([]api.Node{plain(0)}, many)}
	g.L[0] = plain()
	users = make([][]Use, many)
	users[0] = []Use{{many - 2, 0}}
	reached = make([]bool, many)
	reached[0], reached[many-2] = true, true
	longEqual(t, "many that are not reached", g, many-2, reached, users)
}

// longEqual is like answers, for what is too long to be told.
func longEqual(t *testing.T, what string, g api.Graph, root int, reached []bool, users [][]Use) {
	t.Helper()
	if !slices.Equal(From(g, root), reached) {
		t.Errorf("%s: From is wrong", what)
	}
	if !slices.EqualFunc(Users(g, root), users, slices.Equal[[]Use]) {
		t.Errorf("%s: Users is wrong", what)
	}
	alike := func(got int, l []Use) bool { return got == len(l) }
	if !slices.EqualFunc(Counts(g, root), users, alike) {
		t.Errorf("%s: Counts is wrong", what)
	}
}

// wrongAt is inputs that a node at a place of a graph of that many nodes can't have.
func wrongAt(at, many int) []int {
	return ints(at, at+1, max(at, many-1), many, many+1, 1<<31, 1<<32, 1<<32+max(at-1, 0), math.MaxInt, -1, -2, -at-1, -1<<31, -1<<32, math.MinInt, math.MinInt+1)
}

// TestWrongInputs: at each node, reached or not, behind the root too, ahead of, between and behind inputs that may be.
func TestWrongInputs(t *testing.T) {
	g := graph(nil, ints(0), ints(1, 0), ints(1), nil, ints(2, 4), ints(0, 0))
	for at := range g.L {
		good := g.L[at].In
		for _, in := range wrongAt(at, len(g.L)) {
			for slot := range len(good) + 1 {
				wrong := api.Graph{L: slices.Clone(g.L)}
				wrong.L[at].In = slices.Insert(slices.Clone(good), slot, in)
				for root := range g.L {
					none(t, text("input ", in, " of node ", at, " at ", slot), wrong, root)
				}
				for _, root := range outside(len(g.L)) {
					none(t, text("input ", in, " of node ", at, ", and no root"), wrong, root)
				}
			}
		}
	}
	for root := range g.L {
		asSpelled(t, "none wrong", g, root)
	}
}

// TestWrongFarAway: also at the very ends of a great graph, and of many inputs.
func TestWrongFarAway(t *testing.T) {
	g := chain(5000)
	for _, at := range ints(0, 1, 2500, 4998, 4999) {
		for _, in := range wrongAt(at, len(g.L)) {
			wrong := api.Graph{L: slices.Clone(g.L)}
			wrong.L[at].In = ints(in)
			for _, root := range ints(0, 1, 2500, 4999) {
				none(t, text("input ", in, " of node ", at), wrong, root)
			}
			many := slices.Repeat(ints(0), 5000)
			many[at] = in
			if at > 0 && (in < 0 || in >= 1) {
				none(t, text("input ", in, " at ", at), graph(nil, many), 0)
				none(t, text("input ", in, " at ", at), graph(nil, many, nil), 2)
			}
		}
	}
}

// TestSmallAndWrong: each graph of up to three nodes with up to two inputs, from one below 0 to one behind the last: well or not.
func TestSmallAndWrong(t *testing.T) {
	all := []api.Graph{{}}
	for range 3 {
		var next []api.Graph
		for _, g := range all {
			for _, in := range lists(-1, 4) {
				next = append(next, of(append(slices.Clone(g.L), plain(in...))...))
			}
		}
		all = next
	}
	for _, g := range all {
		fine := true
		for at, n := range g.L {
			for _, in := range n.In {
				fine = fine && in >= 0 && in < at
			}
		}
		for root := range g.L {
			if fine {
				asSpelled(t, text(g), g, root)
				continue
			}
			none(t, text(g), g, root)
		}
	}
}
