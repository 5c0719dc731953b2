package torn_test

import (
	"math"
	"testing"

	"darning/api"
	"darning/torn"
)

var (
	low  = api.Line{1, 2, 3, 4, 5, 6, 7, 8}
	high = api.Line{11, 12, 13, 14, 15, 16, 17, 18}
)

// lines are noughts, full ones, some that differ in a word or two, some in a bit alone of a word, and mixtures of few numbers.
func lines() []api.Line {
	l := []api.Line{{}, low, high, {1, 12, 3, 14, 5, 16, 7, 18}, {8, 7, 6, 5, 4, 3, 2, 1}}
	var full api.Line
	for i := range full {
		full[i] = math.MaxUint64
	}
	l = append(l, full)
	for i := range api.Words {
		one, bit, top := low, full, api.Line{}
		one[i] = 99
		bit[i]--
		top[i] = 1 << 63
		l = append(l, one, bit, top)
	}
	for turn, seed := 0, uint64(1); turn < 24; turn++ {
		var x api.Line
		for i := range x {
			seed = seed*6364136223846793005 + 1442695040888963407
			x[i] = seed >> 33 % 2
		}
		l = append(l, x)
	}
	return l
}

// powers are 2^0 to 2^7: a mask has bit i, if it by powers[i], down, is odd.
var powers = [api.Words]int{1, 2, 4, 8, 16, 32, 64, 128}

// written tells the line by numbers, not by bits, of a mask of 0 to 255.
func written(old, now api.Line, mask int) api.Line {
	var x api.Line
	for i, p := range powers {
		x[i] = old[i]
		if mask/p%2 == 1 {
			x[i] = now[i]
		}
	}
	return x
}

// tried tells how many masks make it, by trying them all.
func tried(old, now, is api.Line) int {
	n := 0
	for mask := range 256 {
		if written(old, now, mask) == is {
			n++
		}
	}
	return n
}

// P4.1: Mix, worked out by hand: the document's example first, then bit by bit.
func TestMixRows(t *testing.T) {
	for i, x := range []struct {
		mask int
		want api.Line
	}{
		{255, high}, {0, low},
		{1, api.Line{11, 2, 3, 4, 5, 6, 7, 8}}, {2, api.Line{1, 12, 3, 4, 5, 6, 7, 8}}, {4, api.Line{1, 2, 13, 4, 5, 6, 7, 8}}, {8, api.Line{1, 2, 3, 14, 5, 6, 7, 8}},
		{16, api.Line{1, 2, 3, 4, 15, 6, 7, 8}}, {32, api.Line{1, 2, 3, 4, 5, 16, 7, 8}}, {64, api.Line{1, 2, 3, 4, 5, 6, 17, 8}}, {128, api.Line{1, 2, 3, 4, 5, 6, 7, 18}},
		{0x0f, api.Line{11, 12, 13, 14, 5, 6, 7, 8}}, {0xf0, api.Line{1, 2, 3, 4, 15, 16, 17, 18}}, {0x55, api.Line{11, 2, 13, 4, 15, 6, 17, 8}}, {0xfe, api.Line{1, 12, 13, 14, 15, 16, 17, 18}}, {0x7f, api.Line{11, 12, 13, 14, 15, 16, 17, 8}},
	} {
		if got := torn.Mix(low, high, x.mask); got != x.want {
			t.Errorf("row %d: %v", i, got)
		}
	}
}

// P4.1: Mix by each mask, of lines with each.
func TestMixEach(t *testing.T) {
	for _, old := range lines() {
		for _, now := range lines() {
			for mask := range 256 {
				if got := torn.Mix(old, now, mask); got != written(old, now, mask) {
					t.Fatalf("%v, %v by %d: %v", old, now, mask, got)
				}
			}
		}
	}
}

// P4.1: bits above 7 don't count, the sign's neither.
func TestMixHighBits(t *testing.T) {
	for mask := range 256 {
		want := written(low, high, mask)
		for _, above := range []int{1 << 8, 1 << 9, 1 << 15, 1 << 16, 1 << 31, 1 << 32, 1 << 62, -1 << 8, -1 << 9, -1 << 32, math.MinInt, math.MaxInt - 255} {
			if got := torn.Mix(low, high, mask+above); got != want {
				t.Errorf("%d: %v", mask+above, got)
			}
		}
	}
	for mask, want := range map[int]api.Line{-1: high, -2: {1, 12, 13, 14, 15, 16, 17, 18}, -128: {1, 2, 3, 4, 5, 6, 7, 18}, -256: low, math.MinInt: low, math.MinInt + 1: {11, 2, 3, 4, 5, 6, 7, 8}, math.MaxInt: high, 256: low} {
		if got := torn.Mix(low, high, mask); got != want {
			t.Errorf("%d: %v", mask, got)
		}
	}
}

// P4.1: Masks and Could, worked out by hand.
func TestMasksRows(t *testing.T) {
	near := api.Line{1, 2, 3, 4, 5, 6, 7, 9}
	for i, x := range []struct {
		old, now, is api.Line
		want         int
	}{
		{low, high, low, 1}, {low, high, high, 1}, {low, high, api.Line{1, 12, 3, 14, 5, 16, 7, 18}, 1},
		{low, low, low, 256}, {api.Line{}, api.Line{}, api.Line{}, 256},
		{low, low, high, 0}, {low, low, near, 0}, {api.Line{}, api.Line{}, api.Line{7: 1}, 0},
		{low, near, low, 128}, {low, near, near, 128}, {low, near, api.Line{1, 2, 3, 4, 5, 6, 7, 10}, 0}, {low, near, api.Line{9, 2, 3, 4, 5, 6, 7, 8}, 0},
		{api.Line{}, api.Line{1, 1}, api.Line{1}, 64}, {api.Line{}, api.Line{1, 1}, api.Line{0, 1}, 64}, {api.Line{}, api.Line{1, 1}, api.Line{2}, 0},
		{api.Line{}, api.Line{1, 1, 1, 1, 1, 1, 1}, api.Line{0, 1, 0, 1}, 2}, {api.Line{}, api.Line{1, 1, 1, 1, 1, 1, 1}, api.Line{7: 1}, 0},
		// Each word is old's or now's at its own place, not of another one.
		{low, high, api.Line{2, 1, 3, 4, 5, 6, 7, 8}, 0}, {low, high, api.Line{12, 2, 3, 4, 5, 6, 7, 8}, 0},
		// No word is a mixture of two.
		{api.Line{}, api.Line{3}, api.Line{1}, 0}, {api.Line{}, api.Line{3}, api.Line{2}, 0}, {api.Line{}, api.Line{math.MaxUint64}, api.Line{math.MaxUint32}, 0}, {api.Line{}, api.Line{1 << 63}, api.Line{1 << 63}, 128},
	} {
		if got := torn.Masks(x.old, x.now, x.is); got != x.want {
			t.Errorf("row %d: %d", i, got)
		}
		if got := torn.Could(x.old, x.now, x.is); got != (x.want > 0) {
			t.Errorf("row %d: %v", i, got)
		}
	}
}

// P4.1: Masks and Could of each with each, by trying all masks.
func TestMasksEach(t *testing.T) {
	l := lines()
	for _, old := range l {
		for _, now := range l {
			for _, is := range l {
				want := tried(old, now, is)
				if got := torn.Masks(old, now, is); got != want {
					t.Fatalf("%v, %v, %v: %d, not %d", old, now, is, got, want)
				}
				if got := torn.Could(old, now, is); got != (want > 0) {
					t.Fatalf("%v, %v, %v: %v", old, now, is, got)
				}
			}
		}
	}
}

// P4.1: whatever Mix makes could be; the masks of all that it makes of two lines are 256 together.
func TestMixesAreAll(t *testing.T) {
	l := lines()
	for _, old := range l {
		for _, now := range l {
			made := map[api.Line]int{}
			for mask := range 256 {
				made[torn.Mix(old, now, mask)]++
			}
			for is, n := range made {
				if !torn.Could(old, now, is) || torn.Masks(old, now, is) != n {
					t.Fatalf("%v, %v, %v: %d, not %d", old, now, is, torn.Masks(old, now, is), n)
				}
				is[0] += 1 << 40
				if torn.Could(old, now, is) || torn.Masks(old, now, is) != 0 {
					t.Fatalf("%v, %v, %v: a word that is neither's", old, now, is)
				}
			}
		}
	}
}

// P4.2: where one word alone is other, each Mix is one line or the other, and nothing else could be.
func TestOneWordIsWhole(t *testing.T) {
	for _, old := range lines() {
		for i, p := range powers {
			for _, change := range []uint64{1, 2, 1 << 32, 1<<63 + 1, math.MaxUint64} {
				now := old
				now[i] += change
				for mask := range 256 {
					want := old
					if mask/p%2 == 1 {
						want = now
					}
					if got := torn.Mix(old, now, mask); got != want {
						t.Fatalf("%v, %v by %d: %v", old, now, mask, got)
					}
				}
				if torn.Masks(old, now, old) != 128 || torn.Masks(old, now, now) != 128 {
					t.Fatalf("%v, %v: %d, %d", old, now, torn.Masks(old, now, old), torn.Masks(old, now, now))
				}
				between := old
				between[i] += change + 1<<50
				if torn.Could(old, now, between) {
					t.Fatalf("%v, %v could be %v", old, now, between)
				}
			}
		}
	}
}

// R2, R6: what is handed in stays, and asked again each call tells the same.
func TestHandedInStays(t *testing.T) {
	old, now := low, high
	for mask := range 256 {
		is := torn.Mix(old, now, mask)
		was := is
		if torn.Masks(old, now, is) != torn.Masks(old, now, is) || torn.Could(old, now, is) != torn.Could(old, now, is) || torn.Mix(old, now, mask) != is {
			t.Errorf("%d: told otherwise", mask)
		}
		if old != low || now != high || is != was {
			t.Errorf("%d: %v, %v, %v", mask, old, now, is)
		}
	}
}
