package real

import (
	"math"
	"math/big"
	"testing"
)

// minusZero cannot be written as a constant: -0 is 0 there.
func minusZero() float64 { return math.Copysign(0, -1) }

// nans answers NaNs of many kinds: quiet and signalling, of both signs, with few and with all bits set.
func nans() []float64 {
	all := []float64{math.NaN()}
	for _, b := range []uint64{
		0x7ff0000000000001, 0x7ff0000000000002, 0x7ff7ffffffffffff, 0x7ff8000000000000,
		0x7ff8000000000001, 0x7ff8000000000002, 0x7fffffffffffffff, 0xfff0000000000001,
		0xfff7ffffffffffff, 0xfff8000000000000, 0xfff8000000000001, 0xffffffffffffffff,
	} {
		all = append(all, math.Float64frombits(b))
	}
	for k := range 52 {
		all = append(all, math.Float64frombits(0x7ff<<52|1<<k), math.Float64frombits(0xfff<<52|1<<k))
	}
	return all
}

// finite answers numbers at the edges of what 64 bits hold, of both signs, and some whose sums and products are rounded.
func finite() []float64 {
	var all []float64
	for _, x := range []float64{
		0, 1, 2, 3, 5, 10, 0.1, 0.2, 0.3, 1.0 / 3, 2.0 / 3, 1.5, 7.25,
		math.Nextafter(1, 2), math.Nextafter(1, 0), math.Pi, math.E, math.Sqrt2,
		1 << 26, 1<<26 + 1, 1<<27 + 1, 1 << 52, 1<<51 + 0.5, 1<<53 - 1, 1 << 53, 1<<53 + 2, 1e16, 1e-16, 1e100, 1e-100, 1e154, 1.5e154, 1e-154, 1e-162, 1e308,
		math.MaxFloat64, math.MaxFloat64 / 2, math.Nextafter(math.MaxFloat64, 0), 0x1p970, 0x1p969,
		math.SmallestNonzeroFloat64, 3 * math.SmallestNonzeroFloat64, 0x1p-1022, math.Nextafter(0x1p-1022, 0), math.Nextafter(0x1p-1022, 1),
	} {
		all = append(all, x, math.Copysign(x, -1))
	}
	return all
}

// exact is a number without rounding: 2200 bits hold each sum and each product of two.
func exact(x float64) *big.Float {
	return new(big.Float).SetPrec(2200).SetFloat64(x)
}

// rounded is the 64-bit number nearest to x, of two the even one.
func rounded(x *big.Float) float64 {
	f, _ := x.Float64()
	return f
}

func TestBits(t *testing.T) {
	for _, c := range []struct {
		x    float64
		want uint64
	}{
		{0, 0},
		{minusZero(), 1 << 63},
		{1, 0x3ff0000000000000},
		{-1, 0xbff0000000000000},
		{math.Nextafter(1, 2), 0x3ff0000000000001},
		{0.1, 0x3fb999999999999a},
		{1 << 53, 0x4340000000000000},
		{math.SmallestNonzeroFloat64, 1},
		{-math.SmallestNonzeroFloat64, 1<<63 | 1},
		{0x1p-1022, 0x0010000000000000},
		{math.MaxFloat64, 0x7fefffffffffffff},
		{-math.MaxFloat64, 0xffefffffffffffff},
		{math.Inf(1), 0x7ff0000000000000},
		{math.Inf(-1), 0xfff0000000000000},
	} {
		if b := Bits(c.x); b != c.want {
			t.Errorf("Bits(%v) = %x, want %x", c.x, b, c.want)
		}
	}
	for _, x := range nans() {
		if b := Bits(x); b != 0x7ff8000000000001 {
			t.Errorf("Bits(NaN %x) = %x", math.Float64bits(x), b)
		}
	}
}

// TestBitsOfEachExponent: each sign and exponent, with none, the least, the greatest and all bits of the fraction.
func TestBitsOfEachExponent(t *testing.T) {
	for top := range uint64(1 << 12) {
		for _, low := range []uint64{0, 1, 1 << 51, 1<<52 - 1} {
			raw := top<<52 | low
			want := raw
			if top&0x7ff == 0x7ff && low != 0 {
				want = 0x7ff8000000000001
			}
			if b := Bits(math.Float64frombits(raw)); b != want {
				t.Fatalf("Bits of %x = %x, want %x", raw, b, want)
			}
		}
	}
}

func TestSame(t *testing.T) {
	numbers := append(finite(), math.Inf(1), math.Inf(-1))
	for i, a := range numbers {
		for k, b := range numbers {
			if Same(a, b) != (i == k) {
				t.Errorf("Same(%v, %v) = %v: they are numbers %d and %d of a list of unlike ones", a, b, i != k, i, k)
			}
		}
	}
	for _, a := range nans() {
		for _, b := range nans() {
			if !Same(a, b) {
				t.Errorf("Same(NaN %x, NaN %x) = false", math.Float64bits(a), math.Float64bits(b))
			}
		}
		for _, b := range numbers {
			if Same(a, b) || Same(b, a) {
				t.Errorf("Same of NaN %x and %v = true", math.Float64bits(a), b)
			}
		}
	}
	x := 0.1
	if Same(x+0.2, 0.3) || !Same(x+0.2, math.Nextafter(0.3, 1)) {
		t.Error("Same is not by the bits of 0.1 + 0.2")
	}
}

func TestPlusAndTimes(t *testing.T) {
	for _, a := range finite() {
		for _, b := range finite() {
			plus := rounded(exact(0).Add(exact(a), exact(b)))
			if x := float64(Real(a).Plus(Real(b))); !Same(x, plus) {
				t.Errorf("%v Plus %v = %v, want %v", a, b, x, plus)
			}
			times := rounded(exact(0).Mul(exact(a), exact(b)))
			if x := float64(Real(a).Times(Real(b))); !Same(x, times) {
				t.Errorf("%v Times %v = %v, want %v", a, b, x, times)
			}
		}
	}
}

func TestPlusAndTimesWithoutEnd(t *testing.T) {
	inf, nan := Real(math.Inf(1)), Real(math.NaN())
	zero, less := Real(0), Real(minusZero())
	for _, c := range []struct{ a, b, plus, times Real }{
		{inf, inf, inf, inf},
		{inf, -inf, nan, -inf},
		{-inf, inf, nan, -inf},
		{-inf, -inf, -inf, inf},
		{inf, 1, inf, inf},
		{-1, inf, inf, -inf},
		{-inf, -1, -inf, inf},
		{inf, zero, inf, nan},
		{less, inf, inf, nan},
		{-inf, less, -inf, nan},
		{inf, -math.MaxFloat64, inf, -inf},
		{zero, less, zero, less},
		{less, zero, zero, less},
		{less, less, less, zero},
		{1, -1, zero, -1},
		{math.MaxFloat64, math.MaxFloat64, inf, inf},
		{-math.MaxFloat64, math.MaxFloat64, zero, -inf},
	} {
		if x := c.a.Plus(c.b); !Same(float64(x), float64(c.plus)) {
			t.Errorf("%v Plus %v = %v, want %v", c.a, c.b, x, c.plus)
		}
		if x := c.a.Times(c.b); !Same(float64(x), float64(c.times)) {
			t.Errorf("%v Times %v = %v, want %v", c.a, c.b, x, c.times)
		}
	}
	for _, n := range nans() {
		for _, x := range append(nans(), 0, minusZero(), 1, -2, math.Inf(1), math.Inf(-1)) {
			for _, got := range []Real{Real(n).Plus(Real(x)), Real(x).Plus(Real(n)), Real(n).Times(Real(x)), Real(x).Times(Real(n))} {
				if !math.IsNaN(float64(got)) {
					t.Errorf("with NaN %x and %v: %v", math.Float64bits(n), x, got)
				}
			}
		}
	}
}

// TestEachRoundedByItself: a*b + c is not 0 if it is one step, and 0 if the product is rounded first.
// The numbers come from a list, since the compiler reckons with constants by itself.
func TestEachRoundedByItself(t *testing.T) {
	for _, n := range []struct{ a, b, c Real }{
		{1 + 0x1p-30, 1 + 0x1p-30, -(1 + 0x1p-29)},
		{1 - 0x1p-30, 1 + 0x1p-30, -1},
		{0.1, 10, -1},
	} {
		a, b, c := n.a, n.b, n.c
		if math.FMA(float64(a), float64(b), float64(c)) == 0 {
			t.Fatalf("%v tell nothing", n)
		}
		for i, x := range []Real{
			a.Times(b).Plus(c), c.Plus(a.Times(b)),
			a.Times(b) + c, c + a.Times(b),
			(a * b).Plus(c), c.Plus(a * b),
		} {
			if x != 0 {
				t.Errorf("%v, way %d: %v, want 0", n, i, x)
			}
		}
	}
}
