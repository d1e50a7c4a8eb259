package real

import (
	"math"
	"slices"
	"testing"
)

// big53 is where whole numbers end: one more is rounded away, two more are not.
const big53 = 1 << 53

func list(l ...float64) []float64 { return l }

func TestFold(t *testing.T) {
	inf, nan, less := math.Inf(1), math.NaN(), minusZero()
	for _, c := range []struct {
		l    []float64
		want float64
	}{
		{nil, 0},
		{list(), 0},
		{list(5), 5},
		{list(0), 0},
		{list(less), less},
		{list(inf), inf},
		{list(-inf), -inf},
		{list(nan), nan},
		{list(math.SmallestNonzeroFloat64), math.SmallestNonzeroFloat64},
		{list(1, 2), 3},
		{list(1, 2, 3), 6},
		{list(0.1, 0.2), 0.30000000000000004},
		{list(0.1, 0.2, 0.3), 0.6000000000000001},
		{list(0.3, 0.2, 0.1), 0.6},
		{list(less, less), less},
		{list(less, less, less, less, less), less},
		{list(less, less, 0), 0},
		{list(1, -1), 0},
		{list(big53, 1), big53},
		{list(big53, 1, 1), big53},
		{list(1, 1, big53), big53 + 2},
		{list(big53, 1, 1, 1), big53 + 2},
		{list(1, 1, 1, big53), big53 + 2},
		{list(big53, 1, 1, 1, 1), big53 + 2},
		{list(1, 1, big53, 1, 1), big53 + 4},
		{list(1, 1, 1, 1, big53), big53 + 4},
		{list(inf, -inf), nan},
		{list(1, inf, 2, inf, 3), inf},
		{list(inf, 1, 1, -inf), nan},
		{list(1, 2, nan, 4), nan},
		{list(math.MaxFloat64, math.MaxFloat64, -math.MaxFloat64, -math.MaxFloat64), nan},
		{list(math.MaxFloat64, -math.MaxFloat64, math.MaxFloat64, -math.MaxFloat64), 0},
	} {
		if x := Fold(c.l); !Same(x, c.want) {
			t.Errorf("Fold(%v) = %v, want %v", c.l, x, c.want)
		}
	}
}

func TestRow(t *testing.T) {
	inf, nan, less := math.Inf(1), math.NaN(), minusZero()
	for _, c := range []struct {
		l    []float64
		want float64
	}{
		{nil, 0},
		{list(), 0},
		{list(5), 5},
		{list(less), 0},
		{list(less, less), 0},
		{list(inf), inf},
		{list(-inf), -inf},
		{list(nan), nan},
		{list(1, 2, 3), 6},
		{list(0.1, 0.2, 0.3), 0.6000000000000001},
		{list(0.3, 0.2, 0.1), 0.6},
		{list(1, -1), 0},
		{list(big53, 1, 1), big53},
		{list(1, 1, big53), big53 + 2},
		{list(big53, 1, 1, 1), big53},
		{list(1, 1, 1, big53), big53 + 4},
		{list(1, big53, 1, 1), big53},
		{list(big53, 1, -big53), 0},
		{list(big53, -big53, 1), 1},
		{list(inf, -inf), nan},
		{list(inf, 1, 2), inf},
		{list(1, 2, nan, 4), nan},
		{list(math.MaxFloat64, math.MaxFloat64, -math.MaxFloat64, -math.MaxFloat64), inf},
		{list(math.MaxFloat64, -math.MaxFloat64, math.MaxFloat64, -math.MaxFloat64), 0},
	} {
		if x := Row(c.l); !Same(x, c.want) {
			t.Errorf("Row(%v) = %v, want %v", c.l, x, c.want)
		}
	}
}

// halved is the sum as Fold's sentence has it, each sum reckoned without bound and then rounded. It tells halves that begin with the lesser one too.
func halved(l []float64, greater bool) float64 {
	if len(l) == 1 {
		return l[0]
	}
	half := len(l) / 2
	if greater {
		half = (len(l) + 1) / 2
	}
	return rounded(exact(0).Add(exact(halved(l[:half], greater)), exact(halved(l[half:], greater))))
}

// onward is the sum as Row's sentence has it, each sum reckoned without bound and then rounded.
func onward(l []float64) float64 {
	sum := 0.0
	for _, x := range l {
		sum = rounded(exact(0).Add(exact(sum), exact(x)))
	}
	return sum
}

// mixed answers n numbers of many sizes: by a rule, so that each run has the same.
func mixed(n int, seed uint64) []float64 {
	l := make([]float64, n)
	for i := range l {
		seed = seed*6364136223846793005 + 1442695040888963407
		x := float64(int64(seed)>>11) / (1 << 40)
		l[i] = math.Ldexp(x, int(seed>>5&31)-16)
	}
	return l
}

// TestOrders: of each length up to 130 many lists, whose sums hang on the order: the others must come out otherwise at some of them.
func TestOrders(t *testing.T) {
	for n := 1; n <= 130; n++ {
		unlikeRow, unlikeLesser := 0, 0
		for seed := range uint64(20) {
			l := mixed(n, seed)
			fold, row := halved(l, true), onward(l)
			if x := Fold(l); !Same(x, fold) {
				t.Fatalf("Fold of %d numbers, seed %d: %v, want %v", n, seed, x, fold)
			}
			if x := Row(l); !Same(x, row) {
				t.Fatalf("Row of %d numbers, seed %d: %v, want %v", n, seed, x, row)
			}
			if !Same(fold, row) {
				unlikeRow++
			}
			if !Same(fold, halved(l, false)) {
				unlikeLesser++
			}
		}
		if n > 4 && unlikeRow == 0 {
			t.Errorf("%d numbers: no list tells Fold from Row", n)
		}
		if n > 3 && n&(n-1) != 0 && unlikeLesser == 0 {
			t.Errorf("%d numbers: no list tells which half is the greater", n)
		}
	}
}

// TestLongRows: Fold's depth grows with the halvings alone, and equal numbers in a power of two's count are summed without rounding.
func TestLongRows(t *testing.T) {
	for _, n := range []int{1<<20 - 1, 1 << 20, 1<<20 + 1} {
		l := make([]float64, n)
		for i := range l {
			l[i] = 1
		}
		if x := Fold(l); x != float64(n) {
			t.Errorf("Fold of %d ones = %v", n, x)
		}
		if x := Row(l); x != float64(n) {
			t.Errorf("Row of %d ones = %v", n, x)
		}
	}
	l := make([]float64, 1<<20)
	for i := range l {
		l[i] = 0.1
	}
	if x := Fold(l); !Same(x, 0.1*(1<<20)) {
		t.Errorf("Fold of 2^20 tenths = %v", x)
	}
	if x := Row(l); !Same(x, onwardPlain(l)) || Same(x, Fold(l)) {
		t.Errorf("Row of 2^20 tenths = %v", x)
	}
}

func onwardPlain(l []float64) float64 {
	sum := 0.0
	for _, x := range l {
		sum += x
	}
	return sum
}

// TestListsStay: neither a list nor its spare room is changed, and a second call answers as the first (R4, R5).
func TestListsStay(t *testing.T) {
	all := mixed(64, 7)
	all[3], all[50] = minusZero(), math.Inf(1)
	was := slices.Clone(all)
	for n := 0; n <= 64; n++ {
		l := all[:n]
		fold, row := Fold(l), Row(l)
		if !Same(fold, Fold(l)) || !Same(row, Row(l)) {
			t.Errorf("%d numbers: a second call answers otherwise", n)
		}
		if !slices.EqualFunc(all, was, Same) {
			t.Fatalf("%d numbers: the list is changed", n)
		}
	}
}

// TestWhatIsDone: both orders do what they are given, in the order that they promise; here it is noted by taking the second of two numbers, or the first.
func TestWhatIsDone(t *testing.T) {
	last := func(a, b Real) Real { return b }
	first := func(a, b Real) Real { return a }
	l := list(3, 1, 4, 1, 5)
	if byHalves(l, last) != 5 || byHalves(l, first) != 3 || inTurn(9, l, last) != 5 || inTurn(9, l, first) != 9 {
		t.Error("what is done stands at the wrong place")
	}
	if x := byHalves(list(2, 3, 5, 7), Real.Times); x != 210 {
		t.Errorf("product by halves: %v", x)
	}
	var pairs [][2]Real
	inTurn(0, list(1, 2, 3), func(a, b Real) Real {
		pairs = append(pairs, [2]Real{a, b})
		return b
	})
	if !slices.Equal(pairs, [][2]Real{{0, 1}, {1, 2}, {2, 3}}) {
		t.Errorf("in turn: %v", pairs)
	}
}
