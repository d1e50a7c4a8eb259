package pile

import "cmp"

// entry is an id with its rank. Of two that have both alike no answer tells which was pushed first, so that is not kept.
type entry struct{ id, rank int }

// ahead tells whether e comes ahead of other.
func (e entry) ahead(other entry) bool {
	return cmp.Or(cmp.Compare(other.rank, e.rank), cmp.Compare(e.id, other.id)) < 0
}

// queue is entries as container/heap keeps them: the next one is the first. Only heap calls its Push and Pop.
type queue []entry

func (q queue) Len() int { return len(q) }

func (q queue) Less(i, j int) bool { return q[i].ahead(q[j]) }

func (q queue) Swap(i, j int) { q[i], q[j] = q[j], q[i] }

// Push puts x at the end.
func (q *queue) Push(x any) { *q = append(*q, x.(entry)) }

// Pop takes away the last one.
func (q *queue) Pop() any {
	end := len(*q) - 1
	last := (*q)[end]
	*q = (*q)[:end]
	return last
}
