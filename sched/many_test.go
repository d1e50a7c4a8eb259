package sched

import (
	"testing"

	"backstitch/api"
)

// somePicks is lists of picks that part what runs in many ways.
func somePicks() [][]uint8 {
	return [][]uint8{nil, picks(1), picks(0, 1), picks(2, 1, 0, 0), picks(255, 254, 3)}
}

// afterwards is what is asked from outside when a Run is stuck, so that all that is kept is heard.
func afterwards() []ask {
	return []ask{{runs, 2}, {runs, 99}, {wakes, 0}, {runs, 99}, {wakes, 1}, {wakes, 1}, {runs, 99}, {wakes, 2}, {wakes, 0}, {runs, 99}}
}

// turnsOf is each turn that wakes one of so many tasks or none, with each answer.
func turnsOf(many int) []turn {
	var l []turn
	for _, answer := range ints(Again, Wait, Done) {
		l = append(l, turn{answer: answer})
		for id := range many {
			l = append(l, asking(answer, ask{wakes, id}))
		}
	}
	return l
}

// TestTwoTasks: all stories of two tasks of two turns, each of which may wake either.
func TestTwoTasks(t *testing.T) {
	var l []script
	for _, a := range turnsOf(2) {
		for _, b := range turnsOf(2) {
			l = append(l, script{a, b})
		}
	}
	for _, a := range l {
		for _, b := range l {
			for _, p := range somePicks() {
				check(t, p, story{[]script{a, b}, 2, afterwards()})
			}
		}
	}
}

// TestThreeTasks: all stories of three tasks of one turn, which may wake any.
func TestThreeTasks(t *testing.T) {
	l := turnsOf(3)
	for _, a := range l {
		for _, b := range l {
			for _, c := range l {
				for _, p := range somePicks() {
					check(t, p, story{[]script{{a}, {b}, {c}}, 3, afterwards()})
				}
			}
		}
	}
}

// TestOneTask: all stories of one task of four turns, woken from outside at each place.
func TestOneTask(t *testing.T) {
	for number := range 3 * 3 * 3 * 3 {
		var l script
		for range 4 {
			l = append(l, turn{answer: Again + number%3})
			number /= 3
		}
		for woken := range 1 << 6 {
			var asks []ask
			for i := range 6 {
				if woken>>i&1 == 1 {
					asks = append(asks, ask{wakes, 0})
				}
				asks = append(asks, ask{runs, 1})
			}
			check(t, nil, story{[]script{l}, 1, append(asks, ask{runs, 99})})
		}
	}
}

// someAsk is something that may be asked within a step, or from outside.
func (s *seeds) someAsk(scripts int, within bool) ask {
	switch turn := s.below(20); {
	case turn < 9:
		return ask{wakes, s.below(scripts+4) - 1}
	case turn < 12:
		return ask{makes, s.below(scripts)}
	case turn < 13:
		return ask{what: refuse}
	case turn < 15:
		return ask{what: tells}
	case turn < 16 && within:
		return ask{what: panics, x: Done}
	}
	return ask{runs, s.of(ints(-1, 0, 1, 2, 3, 5, 9, 30, 60, api.MaxSteps+1))}
}

func (s *seeds) someAsks(most, scripts int, within bool) []ask {
	var l []ask
	for range s.below(most + 1) {
		l = append(l, s.someAsk(scripts, within))
	}
	return l
}

func (s *seeds) someScript(scripts int) script {
	var l script
	for range s.below(7) {
		answer := s.of(ints(Again, Again, Again, Wait, Wait, Wait, Wait, Done, 0, 7))
		l = append(l, turn{answer: answer})
		if s.below(2) == 0 {
			l[len(l)-1].asks = s.someAsks(4, scripts, true)
		}
	}
	return l
}

func (s *seeds) somePicks() []uint8 {
	l := make([]uint8, s.below(12))
	for i := range l {
		l[i] = uint8(s.below(256))
	}
	return l
}

// TestManyStories: steps that wake, make, tell, panic and ask what is refused, against the chapter's sentences.
func TestManyStories(t *testing.T) {
	s := seeds(15)
	for range 6000 {
		many := 1 + s.below(6)
		st := story{first: s.below(many + 1)}
		for range many {
			st.scripts = append(st.scripts, s.someScript(many))
		}
		st.asks = append(s.someAsks(20, many, false), ask{runs, 300})
		check(t, s.somePicks(), st)
	}
}

// TestCrowds: as many tasks as may be, and one more.
func TestCrowds(t *testing.T) {
	s := seeds(6)
	for range 25 {
		st := story{}
		for range 20 {
			st.scripts = append(st.scripts, s.someScript(20))
		}
		for i := range api.MaxTasks + 1 {
			st.asks = append(st.asks, ask{makes, i % 20}, ask{runs, s.below(4)}, ask{wakes, s.below(api.MaxTasks + 2)})
		}
		for range 100 {
			st.asks = append(st.asks, ask{wakes, s.below(api.MaxTasks)}, ask{wakes, s.below(api.MaxTasks)}, ask{runs, s.below(12)})
		}
		check(t, s.somePicks(), st)
	}
}

// TestSameAgain: R5: the same calls have the same answers.
func TestSameAgain(t *testing.T) {
	s := seeds(9)
	for range 300 {
		many := 1 + s.below(5)
		st := story{first: many, asks: afterwards()}
		for range many {
			st.scripts = append(st.scripts, s.someScript(many))
		}
		p := s.somePicks()
		first := st.told(New(p))
		for range 3 {
			if again := st.told(New(p)); again != first {
				t.Fatalf("picks %v, story %v:\n%s\nthen\n%s", p, st, first, again)
			}
		}
	}
}
