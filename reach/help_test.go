package reach

import (
	"fmt"
	"slices"
	"testing"

	"backstitch/api"
)

func ints(l ...int) []int { return l }

func text(l ...any) string { return fmt.Sprint(l...) }

func node(op int, in ...int) api.Node { return api.Node{Op: op, In: in} }

// plain is a node of those inputs, whatever its operator is.
func plain(in ...int) api.Node { return node(api.Add, in...) }

func of(l ...api.Node) api.Graph { return api.Graph{L: l} }

// graph is nodes of those inputs.
func graph(in ...[]int) api.Graph {
	var g api.Graph
	for _, l := range in {
		g.L = append(g.L, plain(l...))
	}
	return g
}

// chain is that many nodes, each of which uses the one ahead.
func chain(many int) api.Graph {
	g := graph(nil)
	for at := 1; at < many; at++ {
		g.L = append(g.L, plain(at-1))
	}
	return g
}

// dense is that many nodes, each of which uses all below it.
func dense(many int) api.Graph {
	below := make([]int, many)
	var g api.Graph
	for at := range many {
		below[at] = at
		g.L = append(g.L, plain(below[:at]...))
	}
	return g
}

// alone is that many nodes without inputs.
func alone(many int) api.Graph { return api.Graph{L: make([]api.Node, many)} }

// seeds is numbers by a rule, so that each run has the same.
type seeds uint64

func (s *seeds) below(n int) int {
	*s = *s*6364136223846793005 + 1442695040888963407
	return int(uint64(*s) >> 33 % uint64(n))
}

// some is a well graph of that many nodes, each with up to wide inputs.
func (s *seeds) some(many, wide int) api.Graph {
	g := graph(nil)
	for at := 1; at < many; at++ {
		var in []int
		for range s.below(wide + 1) {
			in = append(in, s.below(at))
		}
		g.L = append(g.L, plain(in...))
	}
	return g
}

// spelled is the chapter's sentence for From, spelled out: one is reached till no more are.
func spelled(g api.Graph, root int) []bool {
	reached := make([]bool, len(g.L))
	reached[root] = true
	for more := true; more; {
		more = false
		for at, n := range g.L {
			for _, in := range n.In {
				if reached[at] && !reached[in] {
					reached[in], more = true, true
				}
			}
		}
	}
	return reached
}

// spelledUsers is the sentence for Users, node by node, each looking for its own.
func spelledUsers(g api.Graph, root int) [][]Use {
	reached := spelled(g, root)
	users := make([][]Use, len(g.L))
	for mine := range g.L {
		for at := len(g.L) - 1; at >= 0; at-- {
			for slot, in := range g.L[at].In {
				if reached[mine] && reached[at] && in == mine {
					users[mine] = append(users[mine], Use{at, slot})
				}
			}
		}
	}
	return users
}

// answers wants what the three functions answer; Counts is to be how many users there are.
func answers(t *testing.T, what string, g api.Graph, root int, reached []bool, users [][]Use) {
	t.Helper()
	if got := From(g, root); !slices.Equal(got, reached) {
		t.Errorf("%s: From %v = %v, want %v", what, root, got, reached)
	}
	if got := Users(g, root); !slices.EqualFunc(got, users, slices.Equal[[]Use]) {
		t.Errorf("%s: Users of %v = %v, want %v", what, root, got, users)
	}
	var counts []int
	for _, l := range users {
		counts = append(counts, len(l))
	}
	if got := Counts(g, root); !slices.Equal(got, counts) {
		t.Errorf("%s: Counts of %v = %v, want %v", what, root, got, counts)
	}
}

// asSpelled wants what the sentences say.
func asSpelled(t *testing.T, what string, g api.Graph, root int) {
	t.Helper()
	answers(t, what, g, root, spelled(g, root), spelledUsers(g, root))
}

// none wants that there is nothing.
func none(t *testing.T, what string, g api.Graph, root int) {
	t.Helper()
	answers(t, what, g, root, nil, nil)
}
