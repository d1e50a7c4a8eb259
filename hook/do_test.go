package hook

import (
	"math"
	"slices"
	"testing"

	"backstitch/api"
)

// TestScale: each number times X, the signs of noughts, infinities and NaN as a product has them.
func TestScale(t *testing.T) {
	check(t, hooks(scale(2)), tens(ints(1), 1), tens(ints(1), 2)) // the chapter's own
	l := list(1, -2, 3.5, 0, less, tiny, great, -great, inf, below, nan, other)
	for _, c := range []struct {
		x    float64
		want []float64
	}{
		{1, l},
		{2, list(2, -4, 7, 0, less, 2*tiny, inf, below, inf, below, nan, nan)},
		{-1, list(-1, 2, -3.5, less, 0, -tiny, -great, great, below, inf, nan, nan)},
		{-0.5, list(-0.5, 1, -1.75, less, 0, less, -great/2, great/2, below, inf, nan, nan)},
		{0, list(0, less, 0, 0, less, 0, 0, less, nan, nan, nan, nan)},
		{less, list(less, 0, less, less, 0, less, less, 0, nan, nan, nan, nan)},
		{inf, list(inf, below, inf, nan, nan, inf, inf, below, inf, below, nan, nan)},
		{below, list(below, inf, below, nan, nan, below, below, inf, below, inf, nan, nan)},
		{nan, slices.Repeat(list(nan), len(l))},
		{other, slices.Repeat(list(nan), len(l))},
		{tiny, list(tiny, -2*tiny, 4*tiny, 0, less, 0, great*tiny, -great*tiny, inf, below, nan, nan)},
		{great, list(great, below, inf, 0, less, great*tiny, inf, below, inf, below, nan, nan)},
	} {
		rows(t, scale(c.x), l, c.want)
	}
}

// TestScaleIsRoundedEachTime: two hooks are not one with the product of both.
func TestScaleIsRoundedEachTime(t *testing.T) {
	third, one := 1.0/3, tens(ints(2), 0.1, 49)
	check(t, hooks(scale(third), scale(3)), one, tens(ints(2), product(product(0.1, third), 3), product(product(49, third), 3)))
	check(t, hooks(scale(1.0/49)), tens(ints(1), 49), tens(ints(1), 0.9999999999999999))
	check(t, hooks(scale(0.1)), tens(ints(1), 3), tens(ints(1), 0.30000000000000004))
	check(t, hooks(scale(0.5), scale(2)), tens(ints(1), tiny), tens(ints(1), 0))
	check(t, hooks(scale(2), scale(0.5)), tens(ints(1), tiny), tens(ints(1), tiny))
	check(t, hooks(scale(great), scale(tiny)), tens(ints(2), 2, -2), tens(ints(2), inf, below))
	for seed := range uint64(40) {
		x, by := mixed(seed, 100), mixed(seed+1000, 4)
		for many := range 5 {
			var l []api.Hook
			for _, y := range by.Data[:many] {
				l = append(l, scale(y))
			}
			want, _ := expected(l, x)
			check(t, l, x, want)
		}
	}
}

// TestClip: what is just at, below and above -X and X.
func TestClip(t *testing.T) {
	above := func(x float64) float64 { return math.Nextafter(x, inf) }
	under := func(x float64) float64 { return math.Nextafter(x, below) }
	for _, x := range list(tiny, 0.1, 1, 2.5, 1e300, great) {
		l := list(x, -x, under(x), above(-x), above(x), under(-x), x/2, -x/2, 0, less, inf, below, nan, other)
		rows(t, clip(x), l, list(x, -x, under(x), above(-x), x, -x, x/2, -x/2, 0, less, x, -x, nan, nan))
	}
	check(t, hooks(clip(2)), tens(ints(5), 1, -2, 3, 0, -4), tens(ints(5), 1, -2, 2, 0, -2))
}

// TestClipByNought: what is below -X is -X, also where X has a sign; noughts are neither below nor above, and keep theirs.
func TestClipByNought(t *testing.T) {
	l := list(5, -5, tiny, -tiny, 0, less, inf, below, nan, other)
	rows(t, clip(0), l, list(0, less, 0, less, 0, less, 0, less, nan, nan))
	rows(t, clip(less), l, list(less, 0, less, 0, 0, less, less, 0, nan, nan))
}

func TestClipByInfinity(t *testing.T) {
	rows(t, clip(inf), strays, strays)
}

// TestZero: all are 0, without a sign, whatever they were and whatever X's sign is.
func TestZero(t *testing.T) {
	want := make([]float64, len(strays))
	rows(t, zero(), strays, want)
	rows(t, api.Hook{Do: api.Zero, X: less}, strays, want)
}

// TestFinite: finite numbers stay as they are, at the edge of what is finite too; one other is enough to refuse, wherever it stands.
func TestFinite(t *testing.T) {
	for _, h := range hooks(finite(), api.Hook{Do: api.Finite, X: less}) {
		well := list(0, less, 1, -1, 0.1, tiny, -tiny, great, -great)
		rows(t, h, well, well)
		for _, x := range list(nan, other, inf, below) {
			refused(t, hooks(h), tens(nil, x), api.ErrHook)
			refused(t, hooks(h), tens(ints(1), x), api.ErrHook)
			for i := range well {
				l := slices.Clone(well)
				l[i] = x
				refused(t, hooks(h), tens(ints(3, 3), l...), api.ErrHook)
			}
			last := counted(4096)
			last.Data[4095] = x
			refused(t, hooks(h), last, api.ErrHook)
		}
	}
}

// TestFiniteAmongOthers: it asks what the hooks ahead of it left, not what was handed in or what comes later.
func TestFiniteAmongOthers(t *testing.T) {
	one, stray, whole := tens(ints(2), 1, great), tens(ints(2), inf, 1), tens(ints(2), 0, 1)
	refused(t, hooks(scale(2), finite()), one, api.ErrHook)
	refused(t, hooks(scale(inf), finite()), whole, api.ErrHook)
	refused(t, hooks(scale(nan), finite()), whole, api.ErrHook)
	refused(t, hooks(scale(0), finite()), stray, api.ErrHook)
	refused(t, hooks(clip(inf), finite()), stray, api.ErrHook)
	refused(t, hooks(finite(), clip(1)), stray, api.ErrHook)
	refused(t, hooks(finite(), zero()), stray, api.ErrHook)
	refused(t, hooks(clip(1), finite()), tens(ints(2), nan, 1), api.ErrHook)
	refused(t, hooks(finite(), scale(2), finite(), zero()), one, api.ErrHook)
	refused(t, hooks(scale(1), clip(1), scale(inf), finite()), tens(ints(1), 1), api.ErrHook)
	check(t, hooks(finite(), scale(2)), one, tens(ints(2), 2, inf))
	check(t, hooks(scale(2), clip(3), finite()), one, tens(ints(2), 2, 3))
	check(t, hooks(clip(1), finite()), stray, tens(ints(2), 1, 1))
	check(t, hooks(zero(), finite()), tens(ints(2), nan, below), tens(ints(2), 0, 0))
	check(t, hooks(finite(), finite(), finite(), finite()), one, one)
}

// TestOneAfterAnother: in one order and in another.
func TestOneAfterAnother(t *testing.T) {
	x := tens(ints(5), 1, -2, 3, 0, -4)
	for _, c := range []struct {
		l    []api.Hook
		want []float64
	}{
		{hooks(scale(2), clip(3)), list(2, -3, 3, 0, -3)},
		{hooks(clip(3), scale(2)), list(2, -4, 6, 0, -6)},
		{hooks(zero(), scale(-1)), list(less, less, less, less, less)},
		{hooks(scale(-1), zero()), list(0, 0, 0, 0, 0)},
		{hooks(clip(3), clip(1)), list(1, -1, 1, 0, -1)},
		{hooks(clip(1), clip(3)), list(1, -1, 1, 0, -1)},
		{hooks(scale(2), scale(3)), list(6, -12, 18, 0, -24)},
		{hooks(scale(2), clip(3), scale(10), clip(25)), list(20, -25, 25, 0, -25)},
		{hooks(clip(25), scale(10), clip(3), scale(2)), list(6, -6, 6, 0, -6)},
		{hooks(scale(10), clip(25), finite(), scale(-1)), list(-10, 20, -25, less, 25)},
		{hooks(scale(inf), zero()), list(0, 0, 0, 0, 0)},
		{hooks(zero(), scale(inf)), list(nan, nan, nan, nan, nan)},
		{hooks(clip(0), scale(inf)), list(nan, nan, nan, nan, nan)},
		{hooks(scale(inf), clip(1)), list(1, -1, 1, nan, -1)},
	} {
		check(t, c.l, x, tens(ints(5), c.want...))
	}
}

func TestNoHooks(t *testing.T) {
	for _, s := range someShapes() {
		x := filled(s, func(i int) float64 { return strays[i%len(strays)] })
		check(t, nil, x, x)
		check(t, hooks(), x, x)
		check(t, hooks(clip(-1))[:0], x, x)
	}
}

// TestEachTwo: of all hooks that may be, one after the other, as the chapter's sentence has it.
func TestEachTwo(t *testing.T) {
	whole := tens(ints(2, 4), 0, less, 1, -1, 0.1, tiny, great, -great)
	strange := tens(ints(len(strays)), strays...)
	for _, x := range []api.Tensor{whole, strange, tens(nil, -3), tens(ints(1, 1), less)} {
		for _, a := range goodHooks() {
			for _, b := range goodHooks() {
				byWords(t, hooks(a, b), x)
			}
		}
	}
}

// byWords wants what the chapter's sentence has.
func byWords(t *testing.T, l []api.Hook, x api.Tensor) {
	t.Helper()
	want, e := expected(l, x)
	if e != api.OK {
		refused(t, l, x, e)
		return
	}
	check(t, l, x, want)
}

// TestUpToTheLimit: lists of each length, of all kinds of hooks.
func TestUpToTheLimit(t *testing.T) {
	all := goodHooks()
	for seed := range 3000 {
		var l []api.Hook
		for k := range seed % (api.MaxHooks + 1) {
			l = append(l, all[(seed*7+k*11+seed*k)%len(all)])
		}
		byWords(t, l, mixed(uint64(seed), 2, 3))
		byWords(t, l, filled(ints(5), func(i int) float64 { return strays[(seed+i*3)%len(strays)] }))
	}
}

// TestEachShape: the shape stays, of the empty one and of those at the limit too.
func TestEachShape(t *testing.T) {
	for i, s := range someShapes() {
		x := mixed(uint64(i), s...)
		for _, h := range hooks(scale(-3), clip(0.5), zero(), finite()) {
			byWords(t, hooks(h), x)
			byWords(t, slices.Repeat(hooks(h), api.MaxHooks), x)
		}
		byWords(t, hooks(scale(3), clip(100), finite(), scale(1.0/3)), x)
	}
}

// TestWrongHooks: wherever they stand, whatever the others would make of the tensor.
func TestWrongHooks(t *testing.T) {
	x := tens(ints(2), 1, inf)
	for _, bad := range wrongHooks() {
		for many := 1; many <= api.MaxHooks; many++ {
			for i := range many {
				for _, well := range hooks(scale(2), finite(), zero()) {
					l := slices.Repeat(hooks(well), many)
					l[i] = bad
					refused(t, l, x, api.ErrHook)
				}
			}
		}
	}
}

func TestTooManyHooks(t *testing.T) {
	x := tens(ints(2), 1, 2)
	for _, h := range goodHooks() {
		for many := api.MaxHooks + 1; many < 12; many++ {
			refused(t, slices.Repeat(hooks(h), many), x, api.ErrHook)
		}
	}
}

// TestWrongTensors: no hook makes one that may be of them, and none is asked first.
func TestWrongTensors(t *testing.T) {
	for _, x := range wrongTensors() {
		refused(t, nil, x, api.ErrShape)
		refused(t, hooks(), x, api.ErrShape)
		for _, h := range goodHooks() {
			refused(t, hooks(h), x, api.ErrShape)
			refused(t, slices.Repeat(hooks(h), api.MaxHooks), x, api.ErrShape)
		}
	}
}

// TestWhichErrorFirst: R6: that of the hooks.
func TestWhichErrorFirst(t *testing.T) {
	for _, x := range wrongTensors() {
		for _, h := range wrongHooks() {
			refused(t, hooks(h), x, api.ErrHook)
			refused(t, hooks(scale(1), h), x, api.ErrHook)
		}
		refused(t, slices.Repeat(hooks(scale(1)), api.MaxHooks+1), x, api.ErrHook)
	}
}
