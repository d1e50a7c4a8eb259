package shape

import (
	"math"
	"math/big"
	"slices"
	"testing"

	"backstitch/api"
)

// shapes answers all lists of at most n of these numbers.
func shapes(n int, numbers ...int) [][]int {
	all := [][]int{nil}
	for from := 0; n > 0; n-- {
		to := len(all)
		for _, s := range all[from:to] {
			for _, x := range numbers {
				all = append(all, append(slices.Clone(s), x))
			}
		}
		from = to
	}
	return all
}

// wantSize is P1.1's sentence on Size, with numbers that have no bound.
func wantSize(s []int) (int, api.Errno) {
	if len(s) > 4 {
		return 0, api.ErrShape
	}
	p := big.NewInt(1)
	for _, n := range s {
		if n < 1 {
			return 0, api.ErrShape
		}
		p.Mul(p, big.NewInt(int64(n)))
	}
	if p.Cmp(big.NewInt(4096)) > 0 {
		return 0, api.ErrSize
	}
	return int(p.Int64()), api.OK
}

func TestSizeAndMay(t *testing.T) {
	for _, c := range []struct {
		s    []int
		size int
		e    api.Errno
	}{
		{nil, 1, api.OK},
		{[]int{}, 1, api.OK},
		{[]int{1}, 1, api.OK},
		{[]int{2, 3, 4}, 24, api.OK},
		{[]int{1, 1, 1, 1}, 1, api.OK},
		{[]int{4096}, 4096, api.OK},
		{[]int{1, 1, 1, 4096}, 4096, api.OK},
		{[]int{4096, 1, 1, 1}, 4096, api.OK},
		{[]int{8, 8, 8, 8}, 4096, api.OK},
		{[]int{63, 65}, 4095, api.OK},
		{[]int{4097}, 0, api.ErrSize},
		{[]int{17, 241}, 0, api.ErrSize},
		{[]int{2, 2049}, 0, api.ErrSize},
		{[]int{1 << 32, 1 << 32}, 0, api.ErrSize},
		{[]int{1 << 31, 2, 1 << 32, 1}, 0, api.ErrSize},
		{[]int{math.MaxInt, math.MaxInt, math.MaxInt, math.MaxInt}, 0, api.ErrSize},
		{[]int{1, 1, 1, 1, 1}, 0, api.ErrShape},
		{[]int{0}, 0, api.ErrShape},
		{[]int{-1}, 0, api.ErrShape},
		{[]int{-2, -2}, 0, api.ErrShape},
		{[]int{math.MinInt}, 0, api.ErrShape},
		{[]int{4097, 0}, 0, api.ErrShape},
		{[]int{0, 4097}, 0, api.ErrShape},
		{[]int{4097, 1, 1, 1, 1}, 0, api.ErrShape},
		{make([]int, 1<<20), 0, api.ErrShape},
	} {
		if size, e := Size(c.s); size != c.size || e != c.e {
			t.Errorf("Size(%v) = %d, %v, want %d, %v", c.s, size, e, c.size, c.e)
		}
		if May(c.s) != (c.e == api.OK) {
			t.Errorf("May(%v) = %v", c.s, May(c.s))
		}
	}
}

func TestSizeOfMany(t *testing.T) {
	for _, s := range shapes(5, -1, 0, 1, 2, 64, 65, 4096, 4097, 1<<31, math.MaxInt) {
		size, e := Size(s)
		wantedSize, wantedE := wantSize(s)
		if size != wantedSize || e != wantedE || May(s) != (wantedE == api.OK) {
			t.Fatalf("Size(%v) = %d, %v, May %v, want %d, %v", s, size, e, May(s), wantedSize, wantedE)
		}
	}
}

func TestStrides(t *testing.T) {
	for _, c := range []struct{ s, want []int }{
		{nil, nil},
		{[]int{7}, []int{1}},
		{[]int{2, 3, 4}, []int{12, 4, 1}},
		{[]int{1, 5, 1}, []int{5, 1, 1}},
		{[]int{2, 3, 4, 5}, []int{60, 20, 5, 1}},
		{[]int{8, 8, 8, 8}, []int{512, 64, 8, 1}},
		{[]int{1, 4096}, []int{4096, 1}},
		{[]int{4096, 1}, []int{1, 1}},
		{[]int{1, 4097}, nil},
		{[]int{4097}, nil},
		{[]int{0, 2}, nil},
		{[]int{2, -1}, nil},
		{[]int{1, 1, 1, 1, 1}, nil},
	} {
		if got := Strides(c.s); !slices.Equal(got, c.want) {
			t.Errorf("Strides(%v) = %v, want %v", c.s, got, c.want)
		}
	}
}

func TestIndex(t *testing.T) {
	s := []int{2, 3, 4}
	for _, c := range []struct {
		s, at []int
		want  int
	}{
		{nil, nil, 0},
		{s, []int{0, 0, 0}, 0},
		{s, []int{0, 0, 1}, 1},
		{s, []int{0, 1, 0}, 4},
		{s, []int{1, 0, 0}, 12},
		{s, []int{1, 2, 3}, 23},
		{[]int{4096}, []int{4095}, 4095},
		{[]int{8, 8, 8, 8}, []int{7, 7, 7, 7}, 4095},
		{s, []int{2, 0, 0}, -1},
		{s, []int{0, 3, 0}, -1},
		{s, []int{0, 0, 4}, -1},
		{s, []int{-1, 0, 0}, -1},
		{s, []int{1, -1, 0}, -1},
		{s, []int{1, 0, -1}, -1},
		{s, []int{math.MaxInt, 0, 0}, -1},
		{s, []int{math.MinInt, 0, 0}, -1},
		{s, []int{0, 0}, -1},
		{s, []int{0, 0, 0, 0}, -1},
		{s, nil, -1},
		{nil, []int{0}, -1},
		{[]int{0}, []int{0}, -1},
		{[]int{4097}, []int{0}, -1},
		{[]int{-1, -1}, []int{0, 0}, -1},
		{[]int{1, 1, 1, 1, 1}, []int{0, 0, 0, 0, 0}, -1},
	} {
		if got := Index(c.s, c.at); got != c.want {
			t.Errorf("Index(%v, %v) = %d, want %d", c.s, c.at, got, c.want)
		}
	}
}

func TestPlace(t *testing.T) {
	s := []int{2, 3, 4}
	for _, c := range []struct {
		s    []int
		i    int
		want []int
	}{
		{nil, 0, []int{}},
		{s, 0, []int{0, 0, 0}},
		{s, 14, []int{1, 0, 2}},
		{s, 23, []int{1, 2, 3}},
		{[]int{4096}, 4095, []int{4095}},
		{s, 24, nil},
		{s, -1, nil},
		{s, math.MaxInt, nil},
		{s, math.MinInt, nil},
		{nil, 1, nil},
		{nil, -1, nil},
		{[]int{4096}, 4096, nil},
		{[]int{0}, 0, nil},
		{[]int{-2}, 0, nil},
		{[]int{4097}, 0, nil},
		{[]int{1, 1, 1, 1, 1}, 0, nil},
	} {
		if got := Place(c.s, c.i); !slices.Equal(got, c.want) {
			t.Errorf("Place(%v, %d) = %v, want %v", c.s, c.i, got, c.want)
		}
	}
	if Place(nil, 0) == nil || Place(nil, 1) != nil {
		t.Error("the one place of no numbers must be told from no place")
	}
}

// TestPlacesRunInRows: the last number of a place runs first, and Index undoes Place.
func TestPlacesRunInRows(t *testing.T) {
	for _, s := range shapes(4, 1, 2, 3) {
		at := make([]int, len(s))
		size, _ := Size(s)
		for i := range size {
			if got := Place(s, i); !slices.Equal(got, at) || Index(s, at) != i {
				t.Fatalf("Place(%v, %d) = %v, want %v, whose Index is %d", s, i, got, at, Index(s, at))
			}
			for k := len(s) - 1; k >= 0; k-- {
				if at[k]++; at[k] < s[k] {
					break
				}
				at[k] = 0
			}
		}
	}
}

func TestSame(t *testing.T) {
	for _, c := range []struct {
		a, b []int
		want bool
	}{
		{nil, nil, true},
		{nil, []int{}, true},
		{[]int{2, 3}, []int{2, 3}, true},
		{[]int{-1, 0}, []int{-1, 0}, true},
		{[]int{1, 1, 1, 1, 1}, []int{1, 1, 1, 1, 1}, true},
		{[]int{2, 3}, []int{3, 2}, false},
		{[]int{2}, []int{2, 1}, false},
		{[]int{1, 2}, []int{2}, false},
		{nil, []int{1}, false},
		{nil, []int{0}, false},
	} {
		if Same(c.a, c.b) != c.want || Same(c.b, c.a) != c.want {
			t.Errorf("Same(%v, %v) is not %v", c.a, c.b, c.want)
		}
	}
}

func TestSpread(t *testing.T) {
	for _, c := range []struct {
		a, b, want []int
		e          api.Errno
	}{
		{nil, nil, nil, api.OK},
		{nil, []int{3}, []int{3}, api.OK},
		{nil, []int{2, 3, 4, 5}, []int{2, 3, 4, 5}, api.OK},
		{[]int{3, 1}, []int{2}, []int{3, 2}, api.OK},
		{[]int{2, 3}, []int{3}, []int{2, 3}, api.OK},
		{[]int{4, 1, 2}, []int{3, 1}, []int{4, 3, 2}, api.OK},
		{[]int{2, 1, 4, 1}, []int{3, 1, 5}, []int{2, 3, 4, 5}, api.OK},
		{[]int{1, 1}, []int{1}, []int{1, 1}, api.OK},
		{[]int{1, 1, 1, 1}, []int{1}, []int{1, 1, 1, 1}, api.OK},
		{[]int{64, 1}, []int{64}, []int{64, 64}, api.OK},
		{[]int{4096}, []int{4096}, []int{4096}, api.OK},
		{[]int{4096}, []int{1, 1, 1, 1}, []int{1, 1, 1, 4096}, api.OK},
		{[]int{64, 1}, []int{65}, nil, api.ErrSize},
		{[]int{4096}, []int{2, 1}, nil, api.ErrSize},
		{[]int{4096, 1}, []int{4096}, nil, api.ErrSize},
		{[]int{2}, []int{3}, nil, api.ErrShape},
		{[]int{2, 3}, []int{2}, nil, api.ErrShape},
		{[]int{2, 3, 4}, []int{3, 3, 4}, nil, api.ErrShape},
		{[]int{2, 64, 1}, []int{3, 1, 64}, nil, api.ErrShape},
		{[]int{0}, []int{1}, nil, api.ErrShape},
		{[]int{0}, []int{0}, nil, api.ErrShape},
		{[]int{-3}, []int{-3}, nil, api.ErrShape},
		{[]int{4097}, []int{1}, nil, api.ErrShape},
		{[]int{4097}, []int{4097}, nil, api.ErrShape},
		{[]int{1, 1, 1, 1, 1}, nil, nil, api.ErrShape},
		{[]int{0}, nil, nil, api.ErrShape},
	} {
		checkSpread(t, c.a, c.b, c.want, c.e)
		checkSpread(t, c.b, c.a, c.want, c.e)
	}
}

func checkSpread(t *testing.T, a, b, want []int, e api.Errno) {
	t.Helper()
	got, gotE := Spread(a, b)
	if !slices.Equal(got, want) || gotE != e {
		t.Errorf("Spread(%v, %v) = %v, %v, want %v, %v", a, b, got, gotE, want, e)
	}
	into := e == api.OK && slices.Equal(want, b)
	if Into(a, b) != into {
		t.Errorf("Into(%v, %v) = %v, want %v", a, b, !into, into)
	}
}

// wantSpread is P1.2's sentence on Spread, with the shorter one led by ones.
func wantSpread(a, b []int) ([]int, api.Errno) {
	_, e := wantSize(a)
	_, f := wantSize(b)
	if e != api.OK || f != api.OK {
		return nil, api.ErrShape
	}
	for len(a) < len(b) {
		a = append([]int{1}, a...)
	}
	for len(b) < len(a) {
		b = append([]int{1}, b...)
	}
	var joined []int
	for k := range a {
		switch {
		case a[k] == b[k], b[k] == 1:
			joined = append(joined, a[k])
		case a[k] == 1:
			joined = append(joined, b[k])
		default:
			return nil, api.ErrShape
		}
	}
	if _, e := wantSize(joined); e != api.OK {
		return nil, e
	}
	return joined, api.OK
}

func TestSpreadOfMany(t *testing.T) {
	all := shapes(3, -1, 0, 1, 2, 3, 64, 4096, math.MaxInt)
	for _, s := range shapes(2, 1, 2) {
		all = append(all, append([]int{1, 2, 1}, s...))
	}
	for _, a := range all {
		for _, b := range all {
			want, e := wantSpread(a, b)
			checkSpread(t, a, b, want, e)
		}
	}
}

func TestInto(t *testing.T) {
	for _, c := range []struct {
		a, b []int
		want bool
	}{
		{nil, nil, true},
		{nil, []int{3}, true},
		{[]int{3}, nil, false},
		{[]int{5}, []int{5}, true},
		{[]int{1}, []int{5}, true},
		{[]int{5}, []int{1}, false},
		{[]int{3, 1}, []int{3, 2}, true},
		{[]int{3, 1}, []int{2}, false},
		{[]int{1}, []int{1, 1}, true},
		{[]int{1, 1}, []int{1}, false},
		{[]int{1}, []int{8, 8, 8, 8}, true},
		{[]int{2}, []int{3}, false},
		{[]int{0}, nil, false},
		{nil, []int{0}, false},
		{[]int{0}, []int{0}, false},
		{[]int{1}, []int{4097}, false},
		{[]int{1}, []int{1, 1, 1, 1, 1}, false},
	} {
		if got := Into(c.a, c.b); got != c.want {
			t.Errorf("Into(%v, %v) = %v", c.a, c.b, got)
		}
	}
}

// roomy answers the list with spare room behind it that is marked.
func roomy(l ...int) []int {
	return append(append(make([]int, 0, len(l)+4), l...), -7, -8, -9, -10)[:len(l)]
}

// fill writes over a list and its spare room.
func fill(l []int) {
	l = l[:cap(l)]
	for k := range l {
		l[k] = 99
	}
}

// TestMemoryIsApart: R4: what is handed in stays as it is, spare room too, and answers are new memory.
func TestMemoryIsApart(t *testing.T) {
	a, b, at := roomy(3, 1), roomy(2), roomy(2, 0)
	spread, _ := Spread(a, b)
	itself, _ := Spread(a, a)
	for _, answer := range [][]int{Strides(a), Place(a, 2), spread, itself} {
		fill(answer)
	}
	Size(a)
	May(a)
	Same(a, b)
	Into(a, b)
	Index(a, at)
	for _, c := range []struct{ got, want []int }{
		{a, []int{3, 1, -7, -8, -9, -10}},
		{b, []int{2, -7, -8, -9, -10}},
		{at, []int{2, 0, -7, -8, -9, -10}},
	} {
		if got := c.got[:len(c.want)]; !slices.Equal(got, c.want) {
			t.Errorf("a list became %v, was %v", got, c.want)
		}
	}
	again, _ := Spread(a, b)
	if !slices.Equal(again, []int{3, 2}) || !slices.Equal(Strides(a), []int{1, 1}) || !slices.Equal(Place(a, 2), []int{2, 0}) {
		t.Error("an answer hangs on what was done with an earlier one")
	}
}
