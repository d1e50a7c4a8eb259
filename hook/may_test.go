package hook

import (
	"slices"
	"testing"

	"backstitch/api"
)

func may(t *testing.T, l []api.Hook, want bool) {
	t.Helper()
	if May(l) != want {
		t.Errorf("May(%v) is %v", l, !want)
	}
}

func TestMayOfNone(t *testing.T) {
	may(t, nil, true)
	may(t, hooks(), true)
	may(t, hooks(clip(-1))[:0], true)
}

// TestMayOfOne: the edges are those of Do, X of Clip 0 with either sign and infinite, X of Zero and Finite 0 with either sign; X of Scale is any.
func TestMayOfOne(t *testing.T) {
	for _, h := range goodHooks() {
		may(t, hooks(h), true)
	}
	for _, h := range wrongHooks() {
		may(t, hooks(h), false)
	}
}

// TestMayOfMany: at the limit all is well, one past it not, whatever the hooks.
func TestMayOfMany(t *testing.T) {
	for _, h := range goodHooks() {
		for many := range 12 {
			may(t, slices.Repeat(hooks(h), many), many <= api.MaxHooks)
		}
	}
	may(t, hooks(zero(), finite(), scale(1), clip(1)), true)
	may(t, hooks(zero(), finite(), scale(1), clip(1), zero()), false)
	may(t, slices.Repeat(hooks(scale(1)), 1<<16), false)
}

// TestMayOfOneWrong: it is told at each place of a list.
func TestMayOfOneWrong(t *testing.T) {
	for _, bad := range wrongHooks() {
		for many := 1; many <= api.MaxHooks+1; many++ {
			for i := range many {
				l := slices.Repeat(hooks(scale(2)), many)
				l[i] = bad
				may(t, l, false)
			}
		}
	}
}

// TestMayChangesNothing: R4: the list stays as it is, spare room too; what is behind its end is not asked.
func TestMayChangesNothing(t *testing.T) {
	room := hooks(scale(2), clip(1), clip(-1), zero(), finite(), scale(3))
	for many := range len(room) + 1 {
		l := slices.Clone(room)
		may(t, l[:many], many <= 2)
		may(t, l[:many], many <= 2)
		if !slices.Equal(l, room) {
			t.Errorf("the hooks became %v", l)
		}
	}
}
