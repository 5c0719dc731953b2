package edge_test

import (
	"math"
	"slices"
	"testing"

	"darning/edge"
)

const (
	biggest  = math.MaxFloat64
	smallest = math.SmallestNonzeroFloat64
	farthest = 1 << 53
)

var (
	inf   = math.Inf(1)
	minus = math.Copysign(0, -1)
)

// noNumbers are of all kinds: quiet and signalling, with a sign and without, with all and with few bits.
func noNumbers() []float64 {
	var l []float64
	for _, bits := range []uint64{0x7ff8000000000001, 0x7ff8000000000000, 0xfff8000000000000, 0x7ff0000000000001, 0xfff0000000000001, 0x7fffffffffffffff, 0xffffffffffffffff, 0xfff8000000000123} {
		l = append(l, math.Float64frombits(bits))
	}
	return l
}

// numbers are in the order, no two the same.
func numbers() []float64 {
	up := []float64{smallest, 2 * smallest, 0x1p-1022, 0.25, 0.5, math.Nextafter(1, 0), 1, math.Nextafter(1, 2), 1.5, 2, 1e15, 1e15 + 0.5, farthest - 1, farthest, farthest + 2, 1 << 62, 1 << 63, 1 << 64, biggest, inf}
	var l []float64
	for _, x := range slices.Backward(up) {
		l = append(l, -x)
	}
	return slices.Concat(l, []float64{minus, 0}, up)
}

func all() []float64 {
	return slices.Concat(numbers(), noNumbers())
}

// place tells by bits alone where x stands in the order, so that the tests lean on no comparison of floats.
func place(x float64) int64 {
	bits := math.Float64bits(x)
	if bits<<1 > 0x7ff0000000000000<<1 {
		return math.MaxInt64
	}
	if bits>>63 == 1 {
		return -1 - int64(bits<<1>>1)
	}
	return int64(bits)
}

func compare(a, b int64) int {
	switch {
	case a < b:
		return -1
	case a > b:
		return 1
	}
	return 0
}

func bitsOf(l []float64) []uint64 {
	out := make([]uint64, len(l))
	for i, x := range l {
		out[i] = math.Float64bits(x)
	}
	return out
}

func sameBits(a, b float64) bool {
	return math.Float64bits(a) == math.Float64bits(b)
}

func sameLists(a, b []float64) bool {
	return slices.Equal(bitsOf(a), bitsOf(b))
}

// lists are of several lengths and mixtures; what makes them is the same in each run.
func lists() [][]float64 {
	l := [][]float64{nil, {}, {minus, 0}, {0, minus}, {0, minus, 0, minus}, {inf, -inf}, {2, 1, 2, 1, 2}, noNumbers()}
	for _, x := range all() {
		l = append(l, []float64{x}, []float64{x, x})
	}
	for turn, seed := 0, uint64(1); turn < 200; turn++ {
		row := make([]float64, turn)
		for i := range row {
			seed = seed*6364136223846793005 + 1442695040888963407
			row[i] = all()[seed>>33%uint64(len(all()))]
		}
		l = append(l, row)
	}
	return l
}

// P1.1: the order, as the document tells it, number by number.
func TestOrder(t *testing.T) {
	row := []float64{-inf, -biggest, -1, -smallest, minus, 0, smallest, 1, biggest, inf, math.NaN()}
	for i, a := range row {
		for k, b := range row {
			if got, want := edge.Cmp(a, b), compare(int64(i), int64(k)); got != want {
				t.Errorf("Cmp(%v, %v) is %d, not %d", a, b, got, want)
			}
		}
	}
}

// P1.1: Cmp and Same of each with each.
func TestCmpSame(t *testing.T) {
	for _, a := range all() {
		for _, b := range all() {
			want := compare(place(a), place(b))
			if got := edge.Cmp(a, b); got != want {
				t.Errorf("Cmp(%v, %v) is %d, not %d", a, b, got, want)
			}
			if got := edge.Same(a, b); got != (want == 0) {
				t.Errorf("Same(%v, %v) is %v", a, b, got)
			}
		}
	}
}

// P1.1: all that are no number are one, whatever their bits, and behind all else.
func TestNoNumbersAreOne(t *testing.T) {
	for _, a := range noNumbers() {
		for _, b := range noNumbers() {
			if edge.Cmp(a, b) != 0 || !edge.Same(a, b) {
				t.Errorf("%x and %x are two", math.Float64bits(a), math.Float64bits(b))
			}
		}
		for _, b := range numbers() {
			if edge.Cmp(a, b) != 1 || edge.Cmp(b, a) != -1 || edge.Same(a, b) {
				t.Errorf("%x is not behind %v", math.Float64bits(a), b)
			}
		}
	}
}

// P1.1: Min and Max are of the list, and nothing of it is ahead or behind.
func TestMinMax(t *testing.T) {
	for _, l := range lists() {
		if len(l) == 0 {
			continue
		}
		lo, hi := edge.Min(l...), edge.Max(l...)
		if !slices.Contains(bitsOf(l), math.Float64bits(lo)) || !slices.Contains(bitsOf(l), math.Float64bits(hi)) {
			t.Errorf("of %v: %v, %v", l, lo, hi)
		}
		for _, x := range l {
			if place(x) < place(lo) || place(x) > place(hi) {
				t.Errorf("of %v: %v, %v", l, lo, hi)
			}
		}
	}
}

// P1.1: Min and Max at the edges: noughts, infinities, no number, none.
func TestMinMaxEdges(t *testing.T) {
	nan := math.NaN()
	for i, x := range []struct {
		l      []float64
		lo, hi float64
	}{
		{[]float64{0, minus}, minus, 0},
		{[]float64{minus, 0}, minus, 0},
		{[]float64{nan, 1}, 1, nan},
		{[]float64{1, nan}, 1, nan},
		{[]float64{nan, inf, -inf}, -inf, nan},
		{[]float64{nan, nan}, nan, nan},
		{[]float64{inf, inf}, inf, inf},
		{[]float64{3, 1, 2}, 1, 3},
		{[]float64{}, nan, nan},
		{nil, nan, nan},
	} {
		lo, hi := edge.Min(x.l...), edge.Max(x.l...)
		if place(lo) != place(x.lo) || place(hi) != place(x.hi) {
			t.Errorf("row %d: %v, %v", i, lo, hi)
		}
	}
	if lo, hi := edge.Min(), edge.Max(); !math.IsNaN(lo) || !math.IsNaN(hi) {
		t.Errorf("of none: %v, %v", lo, hi)
	}
}

// P1.1: Sort tells the same numbers, to the bit, in the order.
func TestSort(t *testing.T) {
	for _, l := range lists() {
		got := edge.Sort(l)
		for i := 1; i < len(got); i++ {
			if place(got[i-1]) > place(got[i]) {
				t.Errorf("of %v: %v", l, got)
				break
			}
		}
		had, have := bitsOf(l), bitsOf(got)
		slices.Sort(had)
		slices.Sort(have)
		if !slices.Equal(had, have) {
			t.Errorf("of %v: other numbers, %v", l, got)
		}
	}
}

// P1.1: whichever way a list lies, it is sorted to the same one.
func TestSortEachWay(t *testing.T) {
	want := append(numbers(), math.NaN())
	for turn := range want {
		mixed := slices.Concat(want[turn:], want[:turn])
		if got := edge.Sort(mixed); !sameLists(got, want) {
			t.Errorf("of %v: %v", mixed, got)
		}
		slices.Reverse(mixed)
		if got := edge.Sort(mixed); !sameLists(got, want) {
			t.Errorf("of %v: %v", mixed, got)
		}
	}
}

// P1.2: Clamp within its bounds, at them, beyond them, and with bounds or numbers that are none.
func TestClamp(t *testing.T) {
	nan := math.NaN()
	for i, x := range []struct{ x, lo, hi, want float64 }{
		{2, 1, 3, 2}, {1, 1, 3, 1}, {3, 1, 3, 3}, {0.5, 1, 3, 1}, {3.5, 1, 3, 3}, {9, 5, 5, 5},
		{-inf, -inf, inf, -inf}, {inf, -inf, inf, inf}, {-inf, 1, 3, 1}, {inf, 1, 3, 3}, {7, inf, inf, inf}, {7, -inf, -inf, -inf},
		{nan, 1, 3, 1}, {2, nan, 3, nan}, {2, 1, nan, 1}, {9, 1, nan, 1}, {nan, nan, nan, nan}, {nan, inf, 3, inf},
		{2, 3, 1, 3}, {0, 3, 1, 3}, {9, 3, 1, 3}, {0, inf, -inf, inf},
		{minus, 0, 1, 0}, {0, -1, minus, minus}, {minus, minus, 0, minus}, {0, minus, 0, 0}, {0, minus, minus, minus}, {minus, 0, 0, 0},
		{9, 0, minus, 0}, {-9, 0, minus, 0}, {minus, 0, minus, 0},
		{smallest, minus, 0, 0}, {-smallest, minus, 0, minus}, {biggest, 0, inf, biggest}, {-biggest, -inf, 0, -biggest},
	} {
		if got := edge.Clamp(x.x, x.lo, x.hi); place(got) != place(x.want) {
			t.Errorf("row %d: Clamp(%v, %v, %v) is %v, not %v", i, x.x, x.lo, x.hi, got, x.want)
		}
	}
}

// P1.2: Clamp of each with each, by the order told in bits.
func TestClampEach(t *testing.T) {
	for _, x := range all() {
		for _, lo := range all() {
			for _, hi := range all() {
				want := x
				switch {
				case place(x) == math.MaxInt64, place(lo) == math.MaxInt64, place(hi) == math.MaxInt64, place(hi) < place(lo), place(x) < place(lo):
					want = lo
				case place(x) > place(hi):
					want = hi
				}
				if got := edge.Clamp(x, lo, hi); place(got) != place(want) {
					t.Fatalf("Clamp(%v, %v, %v) is %v, not %v", x, lo, hi, got, want)
				}
			}
		}
	}
}

// P1.2: Div, its edges and what it refuses.
func TestDiv(t *testing.T) {
	nan := math.NaN()
	for i, x := range []struct {
		a, b, want float64
		ok         bool
	}{
		{3, 2, 1.5, true}, {-3, 2, -1.5, true}, {0, 5, 0, true}, {0, -5, minus, true}, {minus, 5, minus, true}, {minus, -5, 0, true},
		{1, inf, 0, true}, {1, -inf, minus, true}, {minus, inf, minus, true}, {biggest, 1, biggest, true}, {smallest, 1, smallest, true},
		{smallest, 2, 0, true}, {-smallest, 4, minus, true}, {biggest, biggest, 1, true}, {1, 3, 1.0 / 3, true},
		{1, 0, 0, false}, {1, minus, 0, false}, {-1, 0, 0, false}, {0, 0, 0, false}, {minus, minus, 0, false}, {inf, 0, 0, false}, {nan, 0, 0, false}, {nan, minus, 0, false},
		{inf, 2, 0, false}, {-inf, 2, 0, false}, {inf, inf, 0, false}, {-inf, inf, 0, false},
		{nan, 2, 0, false}, {2, nan, 0, false}, {nan, nan, 0, false}, {inf, nan, 0, false},
		{biggest, 0.5, 0, false}, {-biggest, 0.5, 0, false}, {1, smallest, 0, false},
	} {
		if got, ok := edge.Div(x.a, x.b); !sameBits(got, x.want) || ok != x.ok {
			t.Errorf("row %d: Div(%v, %v) is %v, %v", i, x.a, x.b, got, ok)
		}
	}
}

// P1.2, R7: whatever is divided, a yes has a finite quotient, and a no a nought without a sign.
func TestDivEach(t *testing.T) {
	for _, a := range all() {
		for _, b := range all() {
			got, ok := edge.Div(a, b)
			q := a / b
			want := b != 0 && q-q == 0
			if ok != want || ok && !sameBits(got, q) || !ok && !sameBits(got, 0) {
				t.Errorf("Div(%v, %v) is %v, %v", a, b, got, ok)
			}
		}
	}
}

// P1.2: Whole, its edges and what it refuses.
func TestWhole(t *testing.T) {
	for i, x := range []struct {
		x    float64
		want int
		ok   bool
	}{
		{7, 7, true}, {-7, -7, true}, {0, 0, true}, {minus, 0, true}, {1, 1, true}, {1e15, 1000000000000000, true},
		{farthest - 1, farthest - 1, true}, {farthest, farthest, true}, {-(farthest - 1), -(farthest - 1), true}, {-farthest, -farthest, true},
		{farthest + 2, 0, false}, {-(farthest + 2), 0, false}, {1 << 62, 0, false}, {1 << 63, 0, false}, {-(1 << 63), 0, false}, {1 << 64, 0, false}, {biggest, 0, false}, {-biggest, 0, false},
		{0.5, 0, false}, {-0.5, 0, false}, {7.25, 0, false}, {-7.25, 0, false}, {1e15 + 0.5, 0, false}, {farthest/2 - 0.5, 0, false}, {smallest, 0, false}, {-smallest, 0, false}, {math.Nextafter(1, 0), 0, false}, {math.Nextafter(1, 2), 0, false},
		{inf, 0, false}, {-inf, 0, false},
	} {
		if got, ok := edge.Whole(x.x); got != x.want || ok != x.ok {
			t.Errorf("row %d: Whole(%v) is %d, %v", i, x.x, got, ok)
		}
	}
	for _, x := range noNumbers() {
		if got, ok := edge.Whole(x); got != 0 || ok {
			t.Errorf("Whole of no number (%x) is %d, %v", math.Float64bits(x), got, ok)
		}
	}
}

// P1.3: of each two just one of three holds: a is ahead, b is ahead, they are the same.
func TestOneIsAhead(t *testing.T) {
	for _, a := range all() {
		if !edge.Same(a, a) {
			t.Errorf("%v is not the same as it is", a)
		}
		for _, b := range all() {
			there, back := edge.Cmp(a, b), edge.Cmp(b, a)
			if there != -back || there < -1 || there > 1 || edge.Same(a, b) != (there == 0) || edge.Same(a, b) != edge.Same(b, a) {
				t.Errorf("%v and %v: %d, %d", a, b, there, back)
			}
		}
	}
}

// P1.3: what is ahead of one is ahead of all that this one is ahead of.
func TestOrderGoesOn(t *testing.T) {
	for _, a := range all() {
		for _, b := range all() {
			for _, c := range all() {
				if edge.Cmp(a, b) <= 0 && edge.Cmp(b, c) <= 0 && edge.Cmp(a, c) != min(edge.Cmp(a, b), edge.Cmp(b, c)) {
					t.Fatalf("%v, %v, %v", a, b, c)
				}
			}
		}
	}
}

// R2: Sort, Min and Max change nothing of what is handed in, nor what lies behind its length.
func TestHandedInStays(t *testing.T) {
	for _, l := range lists() {
		long := append(slices.Clone(l), 5, math.NaN(), -5)
		was := slices.Clone(long)
		short := long[:len(l)]
		edge.Sort(short)
		edge.Min(short...)
		edge.Max(short...)
		if !sameLists(long, was) {
			t.Errorf("%v became %v", was, long)
		}
	}
}

// R2: what Sort tells is the caller's own, of a list that is in the order already, too.
func TestSortIsNew(t *testing.T) {
	for _, l := range lists() {
		long := append(slices.Clone(l), 5, math.NaN(), -5)
		was := slices.Clone(long)
		got := edge.Sort(long[:len(l)])
		for i := range got {
			got[i] = 77
		}
		_ = append(got, 88)
		if !sameLists(long, was) {
			t.Errorf("%v became %v", was, long)
		}
	}
}

// R2: nil and empty lists are one.
func TestNilAndEmpty(t *testing.T) {
	if a, b := edge.Sort(nil), edge.Sort([]float64{}); len(a) != 0 || len(b) != 0 {
		t.Error(a, b)
	}
}

// R3, R6: no call panics, whatever is handed in, and asked again each tells the same.
func TestEveryCallEnds(t *testing.T) {
	for _, a := range all() {
		for _, b := range all() {
			q, ok := edge.Div(a, b)
			again, still := edge.Div(a, b)
			if !sameBits(q, again) || ok != still || edge.Cmp(a, b) != edge.Cmp(a, b) || edge.Same(a, b) != edge.Same(a, b) {
				t.Errorf("%v, %v: told otherwise", a, b)
			}
		}
		n, ok := edge.Whole(a)
		if again, still := edge.Whole(a); n != again || ok != still {
			t.Errorf("%v: told otherwise", a)
		}
	}
	for _, l := range lists() {
		if !sameLists(edge.Sort(l), edge.Sort(l)) || !sameBits(edge.Min(l...), edge.Min(l...)) || !sameBits(edge.Max(l...), edge.Max(l...)) {
			t.Errorf("%v: told otherwise", l)
		}
	}
	long := slices.Repeat(slices.Concat(all(), []float64{0, minus}), 2000)
	if got := edge.Sort(long); len(got) != len(long) || !slices.IsSortedFunc(got, edge.Cmp) {
		t.Error("a long list is not in the order")
	}
}
