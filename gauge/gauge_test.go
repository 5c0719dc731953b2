package gauge_test

import (
	"math"
	"math/big"
	"slices"
	"testing"

	"darning/api"
	"darning/edge"
	"darning/gauge"
	"darning/nvm"
)

// These are the document's numbers, written anew.
const (
	most     = 200
	mostWear = 1000000
)

var (
	nan = math.NaN()
	inf = math.Inf(1)
)

// script tells numbers that are the same in each run.
type script uint64

func (s *script) next(n int) int {
	*s = *s*6364136223846793005 + 1442695040888963407
	return int(uint64(*s) >> 33 % uint64(n))
}

// far are ordinary numbers, and those at the edges.
func far() []int {
	return []int{math.MinInt, math.MinInt + 1, -1 << 53, -mostWear, -2, -1, 0, 1, 2, 3, 4, 7, 100, mostWear - 1, mostWear, mostWear + 1, 2 * mostWear, 1 << 53, 1 << 62, math.MaxInt - 1, math.MaxInt}
}

func isFloat(t *testing.T, what string, got, want float64) {
	t.Helper()
	if !edge.Same(got, want) {
		t.Errorf("%s: %v, not %v", what, got, want)
	}
}

// wantLife is by numbers that have no bounds, brought where mean brings them.
func wantLife(wear, limit int) float64 {
	if limit < 0 {
		return inf
	}
	left := new(big.Int).Sub(big.NewInt(int64(limit)), big.NewInt(int64(max(wear, 0))))
	if left.Sign() <= 0 {
		return 0
	}
	part := mostWear
	if left.Cmp(big.NewInt(mostWear)) < 0 {
		part = int(left.Int64())
	}
	return float64(part) / float64(min(limit, mostWear))
}

// P22.1: rows worked out by hand, the document's examples first.
func TestLifeRows(t *testing.T) {
	for _, x := range []struct {
		wear, limit int
		want        float64
	}{
		{1, 4, 0.75}, {9, -1, inf},
		{0, 4, 1}, {2, 4, 0.5}, {3, 4, 0.25}, {4, 4, 0}, {5, 4, 0}, {math.MaxInt, 4, 0},
		{0, 1, 1}, {1, 1, 0}, {1, 3, 2.0 / 3}, {2, 3, 1.0 / 3},
		{0, 0, 0}, {1, 0, 0}, {math.MaxInt, 0, 0},
		{0, -1, inf}, {math.MaxInt, math.MinInt, inf}, {math.MinInt, math.MinInt, inf}, {-1, -1, inf},
		{-1, 4, 1}, {-7, 4, 1}, {math.MinInt, 4, 1}, {-1, 0, 0}, {math.MinInt, 0, 0}, {-1, math.MaxInt, 1},
		{0, mostWear, 1}, {1, mostWear, 0.999999}, {mostWear - 1, mostWear, 1e-6}, {mostWear, mostWear, 0},
		{math.MaxInt, math.MaxInt, 0}, {math.MaxInt - 1, math.MaxInt, 1e-6}, {0, math.MaxInt, 1}, {math.MinInt, math.MaxInt, 1},
	} {
		if got := gauge.Life(x.wear, x.limit); !edge.Same(got, x.want) {
			t.Errorf("Life(%d, %d) is %v, not %v", x.wear, x.limit, got, x.want)
		}
	}
}

// P22.1: both numbers of the ratio are brought to 1000000, each for itself, and no sum goes round.
func TestLifeBrought(t *testing.T) {
	for _, x := range []struct {
		wear, limit int
		want        float64
	}{
		{1, mostWear + 1, 1}, {2, mostWear + 1, 0.999999}, {mostWear, mostWear + 1, 1e-6}, {mostWear + 1, mostWear + 1, 0},
		{mostWear, 2 * mostWear, 1}, {mostWear + 1, 2 * mostWear, 0.999999}, {2*mostWear - 5, 2 * mostWear, 5e-6},
		{1 << 61, 1 << 62, 1}, {1<<62 - 5, 1 << 62, 5e-6},
	} {
		if got := gauge.Life(x.wear, x.limit); !edge.Same(got, x.want) {
			t.Errorf("Life(%d, %d) is %v, not %v", x.wear, x.limit, got, x.want)
		}
	}
	for _, wear := range far() {
		for _, limit := range far() {
			if got, want := gauge.Life(wear, limit), wantLife(wear, limit); !edge.Same(got, want) {
				t.Errorf("Life(%d, %d) is %v, not %v", wear, limit, got, want)
			}
		}
	}
}

// P22.1: a nought has no sign, and it is told just where the line is worn.
func TestLifeIsNoughtWhereItIsWorn(t *testing.T) {
	for _, wear := range far() {
		for _, limit := range far() {
			got := gauge.Life(wear, limit)
			worn := limit >= 0 && limit <= max(wear, 0)
			if (got == 0) != worn || math.Signbit(got) || math.IsNaN(got) {
				t.Errorf("Life(%d, %d) is %v", wear, limit, got)
			}
		}
	}
}

// P22.3: Life only falls as a line is written.
func TestLifeFalls(t *testing.T) {
	wears := far()
	for wear := range 2000 {
		wears = append(wears, wear)
	}
	slices.Sort(wears)
	for _, limit := range append(far(), 5, 6, 8, 9, 10, 99, 1000) {
		last := inf
		for _, wear := range wears {
			got := gauge.Life(wear, limit)
			if edge.Cmp(got, last) > 0 {
				t.Errorf("Life(%d, %d) is %v, behind %v", wear, limit, got, last)
			}
			last = got
		}
	}
}

// P22.1: lines as they wear, those without a limit, limits without a line.
func TestWorstRows(t *testing.T) {
	for i, x := range []struct {
		wear, limits []int
		want         float64
	}{
		{nil, nil, nan}, {[]int{}, []int{}, nan}, {nil, []int{1}, nan}, {[]int{}, []int{0, 0}, nan},
		{[]int{1}, []int{4}, 0.75}, {[]int{1, 3}, []int{4, 4}, 0.25}, {[]int{3, 1}, []int{4, 4}, 0.25}, {[]int{2, 3, 1}, []int{4, 4, 4}, 0.25},
		{[]int{1, 3}, []int{4}, 0.75}, {[]int{1, 3}, nil, inf}, {[]int{9}, []int{-1}, inf}, {[]int{9, 9}, []int{-1, math.MinInt}, inf},
		{[]int{1, 9}, []int{4, -1}, 0.75}, {[]int{9, 1}, []int{-1, 4}, 0.75},
		{[]int{1}, []int{4, 0}, 0.75}, {[]int{0, 0}, []int{4, 0}, 0},
		{[]int{5, 0, 9}, []int{4, 4, 100}, 0}, {[]int{10, 1}, []int{100, 2}, 0.5},
		{[]int{-3, math.MinInt}, []int{4, 4}, 1}, {[]int{math.MaxInt, 0}, []int{math.MaxInt, 1}, 0},
	} {
		if got := gauge.Worst(x.wear, x.limits); !edge.Same(got, x.want) {
			t.Errorf("%d: %v, not %v", i, got, x.want)
		}
	}
}

// P22.1, P22.3: the worst is one line's, and none's is less.
func TestWorstOfMany(t *testing.T) {
	s := script(1)
	for n := 1; n <= 300; n++ {
		wear, limits := make([]int, n), make([]int, s.next(2*n))
		for i := range wear {
			wear[i] = s.next(60) - 5
		}
		for i := range limits {
			limits[i] = 50 + s.next(60)
			if s.next(4) == 0 {
				limits[i] = -limits[i]
			}
		}
		got, some := gauge.Worst(wear, limits), false
		for i, w := range wear {
			limit := -1
			if i < len(limits) {
				limit = limits[i]
			}
			life := gauge.Life(w, limit)
			some = some || edge.Same(got, life)
			if edge.Cmp(got, life) > 0 {
				t.Fatalf("%d lines: %v, but line %d has %v", n, got, i, life)
			}
		}
		if !some {
			t.Fatalf("%d lines: %v, which none has", n, got)
		}
	}
}

// worn tells a memory of which line i was written f(i) times.
func worn(t *testing.T, lines int, f func(int) int) *nvm.Memory {
	t.Helper()
	m := nvm.New(lines, nil)
	for line := range lines {
		for n := range f(line) {
			if err := m.Put(line, api.Line{uint64(n)}); err != api.OK {
				t.Fatal(err)
			}
		}
	}
	return m
}

func itself(i int) int { return i }

// wantWears asks for each number from from on whether there is such a line.
func wantWears(lines, from, to int, f func(int) int) []int {
	var out []int
	for line := range lines {
		if from <= line && line < to {
			out = append(out, f(line))
		}
	}
	return out
}

// P22.2: rows worked out by hand.
func TestWearsRows(t *testing.T) {
	m := worn(t, 5, itself)
	for _, x := range []struct {
		from, to int
		want     []int
		uneven   float64
	}{
		{0, 5, []int{0, 1, 2, 3, 4}, 2}, {3, 5, []int{3, 4}, 4 / 3.5}, {1, 2, []int{1}, 1}, {0, 1, []int{0}, nan},
		{-4, 2, []int{0, 1}, 2}, {-1, 1, []int{0}, nan}, {2, 99, []int{2, 3, 4}, 4.0 / 3}, {4, 6, []int{4}, 1},
		{math.MinInt, math.MaxInt, []int{0, 1, 2, 3, 4}, 2}, {2, math.MaxInt, []int{2, 3, 4}, 4.0 / 3}, {math.MinInt, 3, []int{0, 1, 2}, 2},
		{3, 3, nil, nan}, {4, 2, nil, nan}, {5, 9, nil, nan}, {5, 5, nil, nan}, {-9, -1, nil, nan}, {-9, 0, nil, nan}, {0, 0, nil, nan},
		{math.MaxInt, math.MinInt, nil, nan}, {math.MaxInt - 1, math.MaxInt, nil, nan}, {math.MinInt, math.MinInt + 1, nil, nan},
	} {
		if got := gauge.Wears(m, x.from, x.to); !slices.Equal(got, x.want) {
			t.Errorf("%d to %d: %v, not %v", x.from, x.to, got, x.want)
		}
		if got := gauge.Uneven(m, x.from, x.to); !edge.Same(got, x.uneven) {
			t.Errorf("%d to %d: uneven %v, not %v", x.from, x.to, got, x.uneven)
		}
	}
}

// P22.2: all bounds, of the least memory, of small ones and of the greatest.
func TestWearsOfAllBounds(t *testing.T) {
	f := func(i int) int { return (7*i + 3) % 11 }
	for _, lines := range []int{1, 2, 3, 17, most} {
		m := worn(t, lines, f)
		bounds := append(far(), lines-1, lines, lines+1, lines/2)
		for _, from := range bounds {
			for _, to := range bounds {
				want := wantWears(lines, from, to, f)
				if got := gauge.Wears(m, from, to); !slices.Equal(got, want) {
					t.Errorf("%d lines, %d to %d: %v, not %v", lines, from, to, got, want)
				}
				sum, top := 0, 0
				for _, w := range want {
					sum += w
					top = max(top, w)
				}
				uneven := nan
				if top > 0 {
					uneven = float64(top) / (float64(sum) / float64(len(want)))
				}
				if got := gauge.Uneven(m, from, to); !edge.Same(got, uneven) {
					t.Errorf("%d lines, %d to %d: uneven %v, not %v", lines, from, to, got, uneven)
				}
			}
		}
	}
}

// P22.2: of one line or of lines that wear alike it is 1; of n lines of which one alone was written, n.
func TestUnevenOfKnownKinds(t *testing.T) {
	isFloat(t, "alike", gauge.Uneven(worn(t, most, func(int) int { return 3 }), 0, most), 1)
	isFloat(t, "one", gauge.Uneven(worn(t, most, func(i int) int { return i / (most - 1) * 3 }), 0, most), most)
	isFloat(t, "none", gauge.Uneven(nvm.New(most, nil), 0, most), nan)
}

// P22.1, P22.2: a Put of a worn line is no wear; one at which the power goes is; and the wear is told without power, too.
func TestWearsOfWornLinesAndWithoutPower(t *testing.T) {
	limits := []int{2, 0, -1}
	m := nvm.New(3, limits)
	for range 5 {
		for line := range 3 {
			m.Put(line, api.Line{1})
		}
	}
	if got := gauge.Wears(m, 0, 3); !slices.Equal(got, []int{2, 0, 5}) {
		t.Error(got)
	}
	isFloat(t, "worst", gauge.Worst(gauge.Wears(m, 0, 3), limits), 0)
	isFloat(t, "the last one", gauge.Worst(gauge.Wears(m, 2, 3), limits[2:]), inf)
	m.Cut(0, 0)
	if err := m.Put(2, api.Line{2}); err != api.ErrDown {
		t.Fatal(err)
	}
	if got := gauge.Wears(m, 0, 3); !slices.Equal(got, []int{2, 0, 6}) {
		t.Error(got)
	}
	isFloat(t, "uneven", gauge.Uneven(m, 0, 3), 6/(8.0/3))
}

// R3: of no memory, and of one that nobody made, there is nothing.
func TestNoMemory(t *testing.T) {
	for _, m := range []*nvm.Memory{nil, {}} {
		for _, from := range far() {
			for _, to := range far() {
				if got := gauge.Wears(m, from, to); len(got) != 0 {
					t.Errorf("%d to %d: %v", from, to, got)
				}
				isFloat(t, "uneven", gauge.Uneven(m, from, to), nan)
			}
		}
	}
}

// R2: what is handed in stays, and what lies behind its length isn't read.
func TestHandedInStays(t *testing.T) {
	wear, limits := []int{1, 3, 9, 4}, []int{8, 4, 4, 0}
	isFloat(t, "short lists", gauge.Worst(wear[:2], limits[:1]), 0.875)
	isFloat(t, "short lists", gauge.Worst(wear[:2], limits[:2]), 0.25)
	isFloat(t, "no lines", gauge.Worst(wear[:0], limits), nan)
	if !slices.Equal(wear, []int{1, 3, 9, 4}) || !slices.Equal(limits, []int{8, 4, 4, 0}) {
		t.Error(wear, limits)
	}
}

// R2: what is told is the caller's own, and the memory is as it was.
func TestToldIsTheCallersOwn(t *testing.T) {
	m := worn(t, 5, itself)
	m.Cut(2, 0)
	was := *m
	a, b := gauge.Wears(m, 0, 5), gauge.Wears(m, 0, 5)
	gauge.Uneven(m, 0, 5)
	if *m != was {
		t.Error("the memory was changed")
	}
	for i := range a {
		a[i] = -1
	}
	a = append(a[:2], 77, 78, 79, 80)
	if want := []int{0, 1, 2, 3, 4}; !slices.Equal(b, want) || !slices.Equal(gauge.Wears(m, 0, 5), want) || len(a) != 6 {
		t.Error(b, gauge.Wears(m, 0, 5))
	}
}

// R6: asked again each call tells the same, to the bit.
func TestToldAgain(t *testing.T) {
	m := worn(t, 5, itself)
	for _, call := range []func() float64{
		func() float64 { return gauge.Life(1, 3) },
		func() float64 { return gauge.Life(9, -1) },
		func() float64 { return gauge.Life(4, 4) },
		func() float64 { return gauge.Worst([]int{1, 3}, []int{7, 5}) },
		func() float64 { return gauge.Worst(nil, nil) },
		func() float64 { return gauge.Uneven(m, 0, 5) },
		func() float64 { return gauge.Uneven(m, 0, 1) },
		func() float64 { return gauge.Uneven(nil, 0, 1) },
	} {
		if a, b := math.Float64bits(call()), math.Float64bits(call()); a != b {
			t.Errorf("%x, then %x", a, b)
		}
	}
}
