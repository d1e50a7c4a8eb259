package sched

// guarded is a step whose panic goes no farther, since no call may panic whatever the step is.
type guarded func() int

// step answers what f does; where f panics, 0, which says neither Wait nor Done.
func (f guarded) step() (answer int) {
	defer func() { recover() }()
	return f()
}

// task is a step, which is a method value, and whether its next Wait is passed over.
type task struct {
	step  func() int
	woken bool
}

// next answers which task the next step is made by. It wants one that can run.
func (s *Sched) next() int {
	if len(s.picks) == 0 {
		return s.able[0]
	}
	pick := int(s.picks[s.steps%len(s.picks)])
	return s.able[pick%len(s.able)]
}

// one lets a task make one step.
func (s *Sched) one(id int) {
	s.now, s.stepping = id, true
	answer := s.tasks[id].step()
	s.stepping = false
	s.steps++
	s.settle(id, answer)
}

// settle puts the task that stepped where its answer says.
func (s *Sched) settle(id, answer int) {
	// Asked behind the step, which may have made tasks: the list may lie elsewhere by now.
	t := &s.tasks[id]
	switch {
	case answer == Done:
		s.able.take(id)
		// Its step is not asked any more, so what it remembers need not be kept.
		*t = task{}
	case answer == Wait && t.woken:
		t.woken = false
	case answer == Wait:
		s.able.take(id)
		s.waiting.put(id)
	}
}
