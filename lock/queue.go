package lock

// queue is ids in the order in which they joined, none of them twice.
type queue struct {
	ids []int
	// The same ids, so that a long queue is not gone through for each that asks.
	there map[int]struct{}
}

// join puts id at the end, if it is not there.
func (q *queue) join(id int) {
	if _, ok := q.there[id]; ok {
		return
	}
	if q.there == nil {
		q.there = map[int]struct{}{}
	}
	q.there[id] = struct{}{}
	q.ids = append(q.ids, id)
}

// next takes the first one out, and answers it; false, if nobody is there.
func (q *queue) next() (int, bool) {
	if len(q.ids) == 0 {
		return 0, false
	}
	id := q.ids[0]
	delete(q.there, id)
	q.ids = q.ids[1:]
	if len(q.ids) == 0 {
		// A queue that was long once holds no room for it any more.
		*q = queue{}
	}
	return id, true
}
