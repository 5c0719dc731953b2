package mean_test

import (
	"math"
	"math/big"
	"slices"
	"testing"

	"darning/edge"
	"darning/mean"
)

const (
	most    = 1000000
	longest = 200
)

var (
	nan = math.NaN()
	inf = math.Inf(1)
)

// counts are ordinary ones, those at the edges, and some that are brought there.
func counts() []int {
	return []int{math.MinInt, math.MinInt + 1, -most, -1, 0, 1, 2, 3, 7, 1000, 999999, most, most + 1, 2 * most, 1 << 53, math.MaxInt - 1, math.MaxInt}
}

// lists are of all lengths up to the longest, and of mixtures that are the same in each run.
func lists() [][]int {
	l := [][]int{nil, {}}
	for _, a := range counts() {
		l = append(l, slices.Repeat([]int{a}, longest))
		for _, b := range counts() {
			l = append(l, []int{a, b}, slices.Repeat([]int{a, b}, longest/2))
			for _, c := range counts() {
				l = append(l, []int{a, b, c})
			}
		}
	}
	seed := uint64(1)
	for _, bound := range []uint64{2, 10, 1000, most + 1, 2 * most} {
		for n := 1; n <= longest; n++ {
			row := make([]int, n)
			for i := range row {
				seed = seed*6364136223846793005 + 1442695040888963407
				row[i] = int(seed >> 33 % bound)
			}
			l = append(l, row)
		}
	}
	return l
}

func tooLong() [][]int {
	return [][]int{make([]int, longest+1), slices.Repeat([]int{5}, longest+1), slices.Repeat([]int{math.MaxInt}, longest+1), slices.Repeat([]int{1, 2, 3}, 100000)}
}

func brought(l []int) []int {
	out := make([]int, len(l))
	for i, x := range l {
		switch {
		case x < 0:
		case x > most:
			out[i] = most
		default:
			out[i] = x
		}
	}
	return out
}

// near is the float64 that is nearest to a whole number, by another way than Go's conversion.
func near(x *big.Int) float64 {
	f, _ := new(big.Rat).SetInt(x).Float64()
	return f
}

// sums are of numbers that have no bounds.
func sums(l []int) (sum, squares *big.Int) {
	sum, squares = new(big.Int), new(big.Int)
	for _, x := range brought(l) {
		b := big.NewInt(int64(x))
		sum.Add(sum, b)
		squares.Add(squares, new(big.Int).Mul(b, b))
	}
	return sum, squares
}

func wantMean(l []int) float64 {
	sum, _ := sums(l)
	return near(sum) / float64(len(l))
}

func wantVariance(l []int) float64 {
	sum, squares := sums(l)
	n := big.NewInt(int64(len(l)))
	top := new(big.Int).Mul(n, squares)
	top.Sub(top, new(big.Int).Mul(sum, sum))
	return near(top) / float64(len(l)*len(l))
}

func check(t *testing.T, what string, l []int, got, want float64) {
	t.Helper()
	if !edge.Same(got, want) {
		if len(l) > 10 {
			l = l[:10]
		}
		t.Errorf("%s of %v ..: %v, not %v", what, l, got, want)
	}
}

// P2.1: rows worked out by hand, the document's example first.
func TestRows(t *testing.T) {
	for _, x := range []struct {
		l                      []int
		mean, variance, uneven float64
	}{
		{[]int{1, 2}, 1.5, 0.25, 2 / 1.5},
		{[]int{7}, 7, 0, 1},
		{[]int{1, 1, 4}, 2, 2, 2},
		{[]int{2, 4, 4, 4, 5, 5, 7, 9}, 5, 4, 1.8},
		{[]int{0}, 0, 0, nan},
		{[]int{0, 0, 0}, 0, 0, nan},
		{[]int{0, 8}, 4, 16, 2},
		{[]int{8, 0}, 4, 16, 2},
		{[]int{most}, most, 0, 1},
		{[]int{most, 0}, 500000, 250000000000, 2},
		{nil, nan, nan, nan},
		{[]int{}, nan, nan, nan},
	} {
		check(t, "mean", x.l, mean.Of(x.l), x.mean)
		check(t, "variance", x.l, mean.Variance(x.l), x.variance)
		check(t, "uneven", x.l, mean.Uneven(x.l), x.uneven)
	}
}

// P2.1: each count is brought to 0 to 1000000 ahead of all else.
func TestBrought(t *testing.T) {
	for _, l := range lists() {
		b := brought(l)
		check(t, "mean", l, mean.Of(l), mean.Of(b))
		check(t, "variance", l, mean.Variance(l), mean.Variance(b))
		check(t, "uneven", l, mean.Uneven(l), mean.Uneven(b))
	}
	for _, x := range []struct {
		l                      []int
		mean, variance, uneven float64
	}{
		{[]int{-1}, 0, 0, nan},
		{[]int{math.MinInt, -1, 0}, 0, 0, nan},
		{[]int{-5, 4}, 2, 4, 2},
		{[]int{most + 1, most}, most, 0, 1},
		{[]int{math.MaxInt, math.MinInt}, 500000, 250000000000, 2},
	} {
		check(t, "mean", x.l, mean.Of(x.l), x.mean)
		check(t, "variance", x.l, mean.Variance(x.l), x.variance)
		check(t, "uneven", x.l, mean.Uneven(x.l), x.uneven)
	}
}

// P2.1: of 200 counts there is an answer, of 201 and more there is no number.
func TestLongest(t *testing.T) {
	l := slices.Repeat([]int{5}, longest)
	check(t, "mean", l, mean.Of(l), 5)
	check(t, "variance", l, mean.Variance(l), 0)
	check(t, "uneven", l, mean.Uneven(l), 1)
	for _, l := range tooLong() {
		check(t, "mean", l, mean.Of(l), nan)
		check(t, "variance", l, mean.Variance(l), nan)
		check(t, "uneven", l, mean.Uneven(l), nan)
	}
}

// P2.1: Of and Variance by numbers without bounds.
func TestExact(t *testing.T) {
	for _, l := range lists() {
		if len(l) == 0 {
			continue
		}
		check(t, "mean", l, mean.Of(l), wantMean(l))
		check(t, "variance", l, mean.Variance(l), wantVariance(l))
	}
}

// P2.1: n Q and S S are whole numbers, though a float64 can't hold them: as floats their difference would be gone.
func TestVarianceOfNearLargeCounts(t *testing.T) {
	half := slices.Repeat([]int{most, most - 1}, longest/2)
	check(t, "variance", half, mean.Variance(half), 0.25)
	one := slices.Repeat([]int{most}, longest)
	one[17]--
	check(t, "variance", one, mean.Variance(one), 199.0/40000)
}

// P2.1: Uneven is of the greatest count, wherever it stands, and of the mean as a float64, not of the sum.
func TestUneven(t *testing.T) {
	for _, l := range lists() {
		if len(l) == 0 {
			continue
		}
		top := slices.Max(brought(l))
		want := float64(top) / wantMean(l)
		if top == 0 {
			want = nan
		}
		check(t, "uneven", l, mean.Uneven(l), want)
	}
	for place := range 3 {
		l := []int{1, 1, 1}
		l[place] = 10
		check(t, "uneven", l, mean.Uneven(l), 2.5)
	}
	l := []int{3, 2, 0}
	check(t, "uneven", l, mean.Uneven(l), 1.7999999999999998)
}

// P2.1: Ratio, ordinary, of nothing, and of counts that are brought there.
func TestRatio(t *testing.T) {
	for _, x := range []struct {
		part, whole int
		want        float64
	}{
		{1, 4, 0.25}, {4, 4, 1}, {5, 4, 1.25}, {1, 3, 1.0 / 3}, {most, most, 1}, {1, most, 1e-6}, {most, 1, most},
		{0, 4, 0}, {0, most, 0}, {-1, 4, 0}, {math.MinInt, 4, 0},
		{1, 0, inf}, {most, 0, inf}, {math.MaxInt, 0, inf}, {1, -1, inf}, {1, math.MinInt, inf},
		{0, 0, nan}, {-1, 0, nan}, {0, -1, nan}, {math.MinInt, math.MinInt, nan},
		{most + 1, most, 1}, {most, most + 1, 1}, {math.MaxInt, math.MaxInt, 1}, {1, math.MaxInt, 1e-6}, {math.MaxInt, 2, most / 2},
	} {
		if got := mean.Ratio(x.part, x.whole); !edge.Same(got, x.want) {
			t.Errorf("Ratio(%d, %d) is %v, not %v", x.part, x.whole, got, x.want)
		}
	}
	for _, part := range counts() {
		for _, whole := range counts() {
			b := brought([]int{part, whole})
			want := float64(b[0]) / float64(b[1])
			if got := mean.Ratio(part, whole); !edge.Same(got, want) {
				t.Errorf("Ratio(%d, %d) is %v, not %v", part, whole, got, want)
			}
		}
	}
}

// P2.2: the mean is between the least and the greatest.
func TestMeanIsBetween(t *testing.T) {
	for _, l := range lists() {
		if len(l) == 0 {
			continue
		}
		b, got := brought(l), mean.Of(l)
		if !(float64(slices.Min(b)) <= got && got <= float64(slices.Max(b))) {
			t.Errorf("mean of %v: %v", l, got)
		}
	}
}

// P2.2: the variance is nought just where all are the same, and never below.
func TestVarianceIsNoughtOfTheSame(t *testing.T) {
	for _, l := range lists() {
		if len(l) == 0 {
			continue
		}
		b, got := brought(l), mean.Variance(l)
		if !(got >= 0) || (got == 0) != (slices.Min(b) == slices.Max(b)) {
			t.Errorf("variance of %v: %v", l, got)
		}
	}
}

// A nought that is told has no sign: edge knows the two apart.
func TestNoughtsHaveNoSign(t *testing.T) {
	for _, got := range []float64{mean.Of([]int{0}), mean.Of([]int{-7}), mean.Variance([]int{3, 3}), mean.Variance([]int{-7}), mean.Ratio(0, 4), mean.Ratio(-7, 4)} {
		if !edge.Same(got, 0) {
			t.Error(got)
		}
	}
}

// R2: what is handed in stays, and what lies behind its length isn't read.
func TestHandedInStays(t *testing.T) {
	for _, l := range append(lists(), tooLong()...) {
		long := append(slices.Clone(l), 77, most, -5)
		was := slices.Clone(long)
		short := long[:len(l)]
		check(t, "mean", l, mean.Of(short), mean.Of(l))
		check(t, "variance", l, mean.Variance(short), mean.Variance(l))
		check(t, "uneven", l, mean.Uneven(short), mean.Uneven(l))
		if !slices.Equal(long, was) {
			t.Errorf("%v became %v", was, long)
		}
	}
}

// R6: asked again each call tells the same, to the bit, and there is one no number alone.
func TestToldAgain(t *testing.T) {
	for _, l := range append(lists(), tooLong()...) {
		for _, call := range []func([]int) float64{mean.Of, mean.Variance, mean.Uneven} {
			got, again := math.Float64bits(call(l)), math.Float64bits(call(slices.Clone(l)))
			if got != again || math.IsNaN(call(l)) && got != math.Float64bits(nan) {
				t.Errorf("%x, then %x", got, again)
			}
		}
	}
	if got := math.Float64bits(mean.Ratio(0, 0)); got != math.Float64bits(nan) {
		t.Errorf("%x", got)
	}
}
