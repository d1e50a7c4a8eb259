package graph

import (
	"iter"

	"backstitch/api"
)

// most is where counting stops: one past the limit is as good as any more, and no sum or product of such numbers is too great.
const most = api.MaxWork + 1

// calls goes through the graphs that g Calls, each time it does.
func calls(g api.Graph) iter.Seq[int] {
	return func(yield func(int) bool) {
		for _, n := range g.L {
			if n.Op == api.Call && !yield(n.No) {
				return
			}
		}
	}
}

// whole tells whether there is a graph g, and one for each Call that can be come to from it. It goes through each graph once, so that it ends whatever Calls what.
func whole(l []api.Graph, g int) bool {
	if !within(g, len(l)) {
		return false
	}
	seen := map[int]struct{}{g: {}}
	todo := []int{g}
	for len(todo) > 0 {
		last := len(todo) - 1
		at := todo[last]
		todo = todo[:last]
		for to := range calls(l[at]) {
			if !within(to, len(l)) {
				return false
			}
			if _, had := seen[to]; !had {
				seen[to] = struct{}{}
				todo = append(todo, to)
			}
		}
	}
	return true
}

// count answers how many nodes graph g has, with those of the graphs that it Calls, though no more than most, and whether its Calls are too deep. It wants a whole g.
//
// It goes down one Call at a time for all graphs of that depth, with how often it comes to each of them: to go through each Call by itself would take too long.
func count(l []api.Graph, g int) (many int, deep bool) {
	times := map[int]int{g: 1}
	for range api.MaxDepth + 1 {
		next := map[int]int{}
		for at, often := range times {
			many = min(many+often*min(len(l[at].L), most), most)
			for to := range calls(l[at]) {
				next[to] = min(next[to]+often, most)
			}
		}
		times = next
	}
	return many, len(times) > 0
}
