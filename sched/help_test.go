package sched

import (
	"fmt"
	"strings"
	"testing"

	"backstitch/api"
)

func ints(l ...int) []int { return l }

func picks(l ...uint8) []uint8 { return l }

func text(l ...any) string { return fmt.Sprint(l...) }

// scheduler is what a Sched and a plain one both are.
type scheduler interface {
	Go(step func() int) (int, api.Errno)
	Wake(id int) bool
	Run(most int) (int, api.Errno)
	Now() int
	Waiting() []int
	Open() int
}

// plain is the chapter's sentences spelled out: all tasks that were ever made, each with what it is, searched from the first to the last.
type plain struct {
	picks []uint8
	all   []member
	k     int
	now   int
}

type member struct {
	step         func() int
	can, done    bool
	passNextOver bool
}

func newPlain(picks []uint8) *plain { return &plain{picks: picks, now: -1} }

func (p *plain) Go(step func() int) (int, api.Errno) {
	switch {
	case step == nil:
		return 0, api.ErrArg
	case len(p.all) >= 128:
		return 0, api.ErrLimit
	}
	p.all = append(p.all, member{step: step, can: true})
	return len(p.all) - 1, api.OK
}

func (p *plain) Wake(id int) bool {
	if id < 0 || id >= len(p.all) || p.all[id].done {
		return false
	}
	p.all[id].passNextOver = p.all[id].can
	p.all[id].can = true
	return true
}

func (p *plain) Run(most int) (int, api.Errno) {
	if p.now != -1 || most < 0 || most > 1<<20 {
		return 0, api.ErrArg
	}
	for made := 0; ; made++ {
		var can []int
		for id, x := range p.all {
			if x.can && !x.done {
				can = append(can, id)
			}
		}
		switch {
		case len(can) == 0 && p.Open() > 0:
			return made, api.ErrStuck
		case len(can) == 0:
			return made, api.OK
		case made == most:
			return made, api.ErrLimit
		}
		pick := 0
		if len(p.picks) > 0 {
			pick = int(p.picks[p.k%len(p.picks)])
		}
		p.let(can[pick%len(can)])
	}
}

// let lets a task make the next step.
func (p *plain) let(id int) {
	p.now = id
	answer := answered(p.all[id].step)
	p.now = -1
	p.k++
	x := &p.all[id]
	switch {
	case answer == 2 && x.passNextOver:
		x.passNextOver = false
	case answer == 2:
		x.can = false
	case answer == 3:
		x.can, x.done = false, true
	}
}

// answered is what a step answers, something else if it panics.
func answered(step func() int) (answer int) {
	defer func() {
		if recover() != nil {
			answer = -999
		}
	}()
	return step()
}

func (p *plain) Now() int { return p.now }

func (p *plain) Waiting() []int {
	var l []int
	for id, x := range p.all {
		if !x.can && !x.done {
			l = append(l, id)
		}
	}
	return l
}

func (p *plain) Open() int {
	n := 0
	for _, x := range p.all {
		if !x.done {
			n++
		}
	}
	return n
}

// ask is something that is asked of a scheduler: by a step, or by who runs it.
type ask struct{ what, x int }

const (
	wakes  = iota // number x
	makes         // a task of script x
	refuse        // a task without a step
	runs          // at most x steps
	tells         // who steps, who waits, how many are open
	panics        // with x; only a step does
)

// turn is what a step asks, and what it answers then.
type turn struct {
	asks   []ask
	answer int
}

// script is the turns of a task, one after another; behind them it is Done.
type script []turn

// answers is a script of turns that ask nothing.
func answers(l ...int) script {
	var s script
	for _, x := range l {
		s = append(s, turn{answer: x})
	}
	return s
}

// asking is a turn.
func asking(answer int, l ...ask) turn { return turn{asks: l, answer: answer} }

// story is what happens to a scheduler: scripts, of which the first ones are tasks from the beginning on, and what is asked from outside.
type story struct {
	scripts []script
	first   int
	asks    []ask
}

// told plays a story, and tells all that is heard of it.
func (st story) told(s scheduler) string {
	p := &player{s: s, scripts: st.scripts}
	for i := range st.first {
		p.ask(ask{makes, i})
	}
	for _, a := range st.asks {
		p.ask(a)
		p.ask(ask{what: tells})
	}
	return p.log.String()
}

// player asks a scheduler, and notes what it answers.
type player struct {
	s       scheduler
	scripts []script
	made    int
	log     strings.Builder
}

func (p *player) note(l ...any) { fmt.Fprint(&p.log, l...) }

func (p *player) ask(a ask) {
	switch a.what {
	case wakes:
		p.note(" wake", a.x, p.s.Wake(a.x))
	case makes:
		id, e := p.s.Go((&actor{p: p, name: p.made, l: p.scripts[a.x]}).step)
		p.made++
		p.note(" go", id, e)
	case refuse:
		id, e := p.s.Go(nil)
		p.note(" go?", id, e)
	case runs:
		p.note(" run", a.x, "(")
		n, e := p.s.Run(a.x)
		p.note(")", n, e)
	case tells:
		p.note(" [", p.s.Now(), p.s.Waiting(), p.s.Open(), "]")
	case panics:
		panic(a.x)
	}
}

// actor is a thing that remembers how far it is in its script; its step is a task.
type actor struct {
	p    *player
	name int
	l    script
	n    int
}

func (a *actor) step() int {
	a.p.note(" ", string(rune('a'+a.name%26)), a.n, ":")
	n := a.n
	a.n++
	if n >= len(a.l) {
		return Done
	}
	for _, x := range a.l[n].asks {
		a.p.ask(x)
	}
	return a.l[n].answer
}

// check wants a Sched to tell a story as the plain one does.
func check(t *testing.T, picks []uint8, st story) {
	t.Helper()
	got, want := st.told(New(picks)), st.told(newPlain(picks))
	if got != want {
		t.Fatalf("picks %v, story %v:\n%s\nwant\n%s", picks, st, got, want)
	}
}

// seeds is numbers by a rule, so that each run has the same.
type seeds uint64

func (s *seeds) below(n int) int {
	*s = *s*6364136223846793005 + 1442695040888963407
	return int(uint64(*s) >> 33 % uint64(n))
}

func (s *seeds) of(l []int) int { return l[s.below(len(l))] }

// counting is a task that answers one thing, and counts how often it stepped.
type counting struct{ answer, steps int }

func (c *counting) step() int {
	c.steps++
	return c.answer
}
