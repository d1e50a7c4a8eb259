package sched

import "slices"

// numbers is numbers of tasks, the least first, none of them twice.
type numbers []int

func (l numbers) has(id int) bool {
	_, ok := slices.BinarySearch(l, id)
	return ok
}

// put wants an id that is not there.
func (l *numbers) put(id int) {
	at, _ := slices.BinarySearch(*l, id)
	*l = slices.Insert(*l, at, id)
}

// take takes id out; false, if it was not there.
func (l *numbers) take(id int) bool {
	at, ok := slices.BinarySearch(*l, id)
	if ok {
		*l = slices.Delete(*l, at, at+1)
	}
	return ok
}
