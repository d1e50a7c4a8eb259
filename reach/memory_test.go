package reach

import (
	"slices"
	"testing"

	"backstitch/api"
)

const spare = 3

// roomy copies a list, with marked spare room behind it.
func roomy[T any](l []T, mark T) []T {
	made := append(make([]T, 0, len(l)+spare), l...)
	return append(made, mark, mark, mark)[:len(l)]
}

// roomyGraph copies a graph and all lists in it; what is marked would be heard if it were asked.
func roomyGraph(g api.Graph, mark int) api.Graph {
	made := api.Graph{L: roomy(g.L, plain(mark))}
	for i, n := range g.L {
		val := api.Tensor{Shape: roomy(n.Val.Shape, 77), Data: roomy(n.Val.Data, 77)}
		made.L[i] = api.Node{Op: n.Op, In: roomy(n.In, mark), To: roomy(n.To, 77), No: n.No, Val: val, Hooks: roomy(n.Hooks, api.Hook{Do: 77})}
	}
	return made
}

// opened is a list with its spare room.
func opened[T any](l []T) []T { return l[:cap(l)] }

// picture tells all that there is in a graph, with all spare room.
func picture(g api.Graph) string {
	told := text(len(g.L))
	for _, n := range opened(g.L) {
		told += text("; ", n, opened(n.In), opened(n.To), opened(n.Val.Shape), opened(n.Val.Data), opened(n.Hooks))
	}
	return told
}

// overwrite writes over a list and its spare room.
func overwrite[T any](l []T, x T) {
	for i := range opened(l) {
		opened(l)[i] = x
	}
}

// graphs is some that are well, and some that are not.
func graphs() []api.Graph {
	s := seeds(7)
	full := graph(nil, ints(0), ints(0, 1, 0), ints(1, 2), nil, ints(0, 0), ints(3, 5))
	for i := range full.L {
		n := &full.L[i]
		n.To, n.No, n.Hooks = ints(2, 3), 5, []api.Hook{{Do: api.Scale, X: 2}}
		n.Val = api.Tensor{Shape: ints(2), Data: []float64{1, 2}}
	}
	return []api.Graph{full, chain(6), alone(4), dense(9), s.some(30, 4), {}, graph(ints(0)), graph(nil, ints(0, 1)), graph(nil, ints(0), ints(-1, 0)), graph(nil, nil, ints(0, 1, 9))}
}

// tell asks all three functions.
func tell(g api.Graph, root int) string {
	return text(From(g, root), Users(g, root), Counts(g, root))
}

// TestNothingIsChanged: R3, R4: what is handed in stays as it is, spare room too, be there an answer or not; and spare room is not asked.
func TestNothingIsChanged(t *testing.T) {
	for _, g := range graphs() {
		for _, mark := range ints(0, 77, -1) {
			made := roomyGraph(g, mark)
			ahead := picture(made)
			for root := -1; root <= len(g.L); root++ {
				want := tell(g, root)
				for range 2 {
					if got := tell(made, root); got != want {
						t.Errorf("%v from %v: %v, want %v", g, root, got, want)
					}
				}
			}
			if now := picture(made); now != ahead {
				t.Errorf("%v became %v", ahead, now)
			}
		}
	}
}

// TestAnswersAreApart: R4: what is written into an answer, spare room too, is seen neither in what was handed in, nor in its other lists, nor in another answer.
func TestAnswersAreApart(t *testing.T) {
	for _, g := range graphs() {
		made := roomyGraph(g, 0)
		ahead := picture(made)
		for root := range g.L {
			want := tell(made, root)
			from, users, counts := From(made, root), Users(made, root), Counts(made, root)
			kept := text(from, users, counts)
			scribble(t, made, root)
			if now := text(from, users, counts); now != kept || now != want {
				t.Errorf("%v from %v: the answers became %v, want %v", g, root, now, want)
			}
			if now := tell(made, root); now != want {
				t.Errorf("%v from %v: later it is %v, want %v", g, root, now, want)
			}
		}
		if now := picture(made); now != ahead {
			t.Errorf("%v became %v", ahead, now)
		}
	}
}

// scribble writes over all that the functions answer, and wants the lists of Users apart.
func scribble(t *testing.T, g api.Graph, root int) {
	t.Helper()
	overwrite(From(g, root), false)
	overwrite(From(g, root), true)
	overwrite(Counts(g, root), 99)
	users := Users(g, root)
	for i := range users {
		others := slices.Concat(users[:i], users[i+1:])
		want := text(others)
		overwrite(users[i], Use{99, 99})
		users[i] = append(users[i], Use{98, 98})
		if now := text(others); now != want {
			t.Errorf("%v from %v: with the users of %v the others became %v, want %v", g, root, i, now, want)
		}
	}
	overwrite(users, []Use{{99, 99}})
}

// TestNothingIsKept: R4: what is written into lists that were handed in is not seen in an answer, nor in a later one.
func TestNothingIsKept(t *testing.T) {
	for _, g := range graphs() {
		for root := range g.L {
			made := roomyGraph(g, 0)
			from, users, counts := From(made, root), Users(made, root), Counts(made, root)
			want := text(from, users, counts)
			for _, n := range made.L {
				overwrite(n.In, 99)
			}
			overwrite(made.L, plain(99))
			if now := text(from, users, counts); now != want {
				t.Errorf("%v from %v: the answers became %v, want %v", g, root, now, want)
			}
			if now := tell(g, root); now != want {
				t.Errorf("%v from %v: later it is %v, want %v", g, root, now, want)
			}
		}
	}
}

// TestSharedLists: nodes may share their lists, and graphs their nodes.
func TestSharedLists(t *testing.T) {
	in := ints(0, 0, 1)
	g := graph(nil, in[:1], in, in, in[:2], in[2:])
	for root := range g.L {
		asSpelled(t, "shared", g, root)
		if root < 4 {
			asSpelled(t, "shared nodes", api.Graph{L: g.L[:4]}, root)
		}
	}
	if !slices.Equal(in, ints(0, 0, 1)) {
		t.Errorf("the list became %v", in)
	}
}
