package gap_test

import (
	"math"
	"slices"
	"testing"

	"darning/gap"
)

// most is how many lines there may be, by the chapter.
const most = 100000

// numbers are ordinary ones and those at the edges.
func numbers() []int {
	return []int{math.MinInt, math.MinInt + 1, -1 << 32, -1<<32 + 3, -most, -2, -1, 0, 1, 2, 3, 4, 5, 7, most - 1, most, most + 1, 1 << 31, 1 << 32, 1<<32 + 3, 1<<48 + 2, 1<<62 + 3, math.MaxInt - most, math.MaxInt - 3, math.MaxInt - 1, math.MaxInt}
}

// may is what the chapter says of what may be asked.
func may(n, moves int) bool {
	return !(n < 1 || n > most || moves < 0)
}

// ring is lines on slots, copied move by move; -1 stands at the gap.
type ring []int

// newRing tells n lines as they stand ahead of the first move.
func newRing(n int) ring {
	r := make(ring, n+1)
	for i := range n {
		r[i] = i
	}
	r[n] = -1
	return r
}

// next tells from which slot to which the next move copies.
func (r ring) next() (int, int) {
	to := slices.Index(r, -1)
	if to == 0 {
		return len(r) - 1, to
	}
	return to - 1, to
}

// move copies one line to where the gap is.
func (r ring) move() {
	from, to := r.next()
	r[to], r[from] = r[from], -1
}

// told is the ring that Line tells of, slot by slot.
func told(n, moves int) ring {
	r := make(ring, n+1)
	for slot := range r {
		r[slot] = gap.Line(n, moves, slot)
	}
	return r
}

// checkRing holds all that is told of n lines behind so many moves against a ring.
func checkRing(t *testing.T, n, moves int, r ring) {
	t.Helper()
	if got, want := gap.Gap(n, moves), slices.Index(r, -1); got != want {
		t.Fatalf("%d lines, %d moves: gap %d, not %d", n, moves, got, want)
	}
	for slot, line := range r {
		if got := gap.Line(n, moves, slot); got != line {
			t.Fatalf("%d lines, %d moves: line %d at slot %d, not %d", n, moves, got, slot, line)
		}
		if got := gap.Slot(n, moves, line); line >= 0 && got != slot {
			t.Fatalf("%d lines, %d moves: line %d at slot %d, not %d", n, moves, line, got, slot)
		}
	}
	from, to := gap.Move(n, moves)
	if wantFrom, wantTo := r.next(); from != wantFrom || to != wantTo {
		t.Fatalf("%d lines, %d moves: from %d to %d, not from %d to %d", n, moves, from, to, wantFrom, wantTo)
	}
}

// P8.1, P8.2: worked out by hand, the document's example first: what stands at each slot, and the next move.
func TestRows(t *testing.T) {
	for i, x := range []struct {
		n, moves      int
		lines         []int
		gap, from, to int
	}{
		{3, 0, []int{0, 1, 2, -1}, 3, 2, 3},
		{3, 1, []int{0, 1, -1, 2}, 2, 1, 2},
		{3, 2, []int{0, -1, 1, 2}, 1, 0, 1},
		{3, 3, []int{-1, 0, 1, 2}, 0, 3, 0},
		{3, 4, []int{2, 0, 1, -1}, 3, 2, 3},
		{3, 5, []int{2, 0, -1, 1}, 2, 1, 2},
		{3, 7, []int{-1, 2, 0, 1}, 0, 3, 0},
		{3, 8, []int{1, 2, 0, -1}, 3, 2, 3},
		{3, 11, []int{-1, 1, 2, 0}, 0, 3, 0},
		{3, 12, []int{0, 1, 2, -1}, 3, 2, 3},
		{1, 0, []int{0, -1}, 1, 0, 1},
		{1, 1, []int{-1, 0}, 0, 1, 0},
		{1, 2, []int{0, -1}, 1, 0, 1},
		{2, 2, []int{-1, 0, 1}, 0, 2, 0},
		{2, 3, []int{1, 0, -1}, 2, 1, 2},
		{2, 4, []int{1, -1, 0}, 1, 0, 1},
		// 2^63 - 1 is 3 modulo 4, and (2^63 - 1) by 4 is 2^61 - 1, 1 modulo 3.
		{3, math.MaxInt, []int{-1, 2, 0, 1}, 0, 3, 0},
		// It is odd, too, and 1 modulo 3; by 3 it is a third of 2^63 - 2, which is even.
		{1, math.MaxInt, []int{-1, 0}, 0, 1, 0},
		{2, math.MaxInt, []int{0, -1, 1}, 1, 0, 1},
		// 2^32 is 0 modulo 4, and by 4 it is 2^30, 1 modulo 3.
		{3, 1 << 32, []int{2, 0, 1, -1}, 3, 2, 3},
	} {
		if got := gap.Gap(x.n, x.moves); got != x.gap {
			t.Errorf("row %d: gap %d", i, got)
		}
		if got := told(x.n, x.moves); !slices.Equal(got, ring(x.lines)) {
			t.Errorf("row %d: %v", i, got)
		}
		for line := range x.n {
			if got := gap.Slot(x.n, x.moves, line); got != slices.Index(x.lines, line) {
				t.Errorf("row %d: line %d at %d", i, line, got)
			}
		}
		if from, to := gap.Move(x.n, x.moves); from != x.from || to != x.to {
			t.Errorf("row %d: from %d to %d", i, from, to)
		}
	}
}

// P8.1, P8.2: lines that are copied move by move, for more than two times till all are where they were.
func TestMoveByMove(t *testing.T) {
	for n := 1; n <= 12; n++ {
		r := newRing(n)
		for moves := range 2*n*(n+1) + 5 {
			checkRing(t, n, moves, r)
			r.move()
		}
	}
}

// P8.1, P8.2: as many lines as there may be, at the edges of a round and far away.
func TestMost(t *testing.T) {
	for i, x := range []struct{ moves, gap, slotOfFirst, slotOfLast, from int }{
		{0, most, 0, most - 1, most - 1},
		{1, most - 1, 0, most, most - 2},
		{5, most - 5, 0, most, most - 6},
		{most - 1, 1, 0, most, 0},
		{most, 0, 1, most, most},
		{most + 1, most, 1, 0, most - 1},
		{most + 2, most - 1, 1, 0, most - 2},
		{2*most + 1, 0, 2, 1, most},
		{2*most + 2, most, 2, 1, most - 1},
		{most*(most+1) - 1, 0, most, most - 1, most},
		{most * (most + 1), most, 0, most - 1, most - 1},
		{most*(most+1) + 1, most - 1, 0, most, most - 2},
	} {
		if got := gap.Gap(most, x.moves); got != x.gap {
			t.Errorf("row %d: gap %d", i, got)
		}
		first, last := gap.Slot(most, x.moves, 0), gap.Slot(most, x.moves, most-1)
		if first != x.slotOfFirst || last != x.slotOfLast {
			t.Errorf("row %d: %d, %d", i, first, last)
		}
		if gap.Line(most, x.moves, first) != 0 || gap.Line(most, x.moves, last) != most-1 || gap.Line(most, x.moves, x.gap) != -1 {
			t.Errorf("row %d: %d, %d", i, gap.Line(most, x.moves, first), gap.Line(most, x.moves, last))
		}
		if from, to := gap.Move(most, x.moves); from != x.from || to != x.gap {
			t.Errorf("row %d: from %d to %d", i, from, to)
		}
	}
}

// P8.1, P8.2, R1: far away all is as it is behind so many moves as are left modulo (n + 1) n.
func TestFarAway(t *testing.T) {
	for _, n := range []int{1, 2, 3, 4, 7, 64, 81, 1000} {
		for _, moves := range []int{1 << 31, 1 << 32, 1<<32 + 5, 1 << 40, 1<<62 + 3, math.MaxInt - 1000, math.MaxInt - 1, math.MaxInt} {
			near := moves % (n * (n + 1))
			if far := told(n, moves); !slices.Equal(far, told(n, near)) {
				t.Fatal(n, moves)
			}
			checkRing(t, n, moves, told(n, near))
		}
	}
}

// P8.1, P8.2: numbers that may not be, in all places, at the edges and far away. R3: none of them panics.
func TestNone(t *testing.T) {
	for _, n := range numbers() {
		for _, moves := range numbers() {
			g := gap.Gap(n, moves)
			from, to := gap.Move(n, moves)
			if may(n, moves) != (g >= 0 && g <= n) || !may(n, moves) && g != -1 {
				t.Error(n, moves, g)
			}
			if may(n, moves) != (from >= 0 && from <= n && to == g) || !may(n, moves) && (from != -1 || to != -1) {
				t.Error(n, moves, from, to)
			}
			for _, k := range numbers() {
				slot, line := gap.Slot(n, moves, k), gap.Line(n, moves, k)
				if there := may(n, moves) && k >= 0 && k < n; there != (slot >= 0 && slot <= n && slot != g) || !there && slot != -1 {
					t.Error(n, moves, k, slot)
				}
				if there := may(n, moves) && k >= 0 && k <= n && k != g; there != (line >= 0 && line < n) || !there && line != -1 {
					t.Error(n, moves, k, line)
				}
			}
		}
	}
}

// P8.1: a line stands at one slot, which is not the gap, and there stands that line alone.
func TestBothWays(t *testing.T) {
	for _, n := range []int{1, 2, 3, 5, 16, 81} {
		for moves := range n*(n+1) + 3 {
			stands := map[int]int{}
			for line := range n {
				slot := gap.Slot(n, moves, line)
				stands[slot]++
				if got := gap.Line(n, moves, slot); got != line {
					t.Fatal(n, moves, line, slot, got)
				}
			}
			stands[gap.Gap(n, moves)]++
			if len(stands) != n+1 {
				t.Fatal(n, moves, stands)
			}
		}
	}
}

// P8.3: a move moves one line alone, to where the gap was, as Move says; the gap is where it came from.
func TestOneLineMoves(t *testing.T) {
	for _, n := range []int{1, 2, 3, 5, 16, 81} {
		for moves := range n*(n+1) + 3 {
			from, to := gap.Move(n, moves)
			if to != gap.Gap(n, moves) || from != gap.Gap(n, moves+1) {
				t.Fatal(n, moves, from, to)
			}
			moved := gap.Line(n, moves, from)
			if moved < 0 || moved >= n {
				t.Fatal(n, moves, from, moved)
			}
			for line := range n {
				old, now := gap.Slot(n, moves, line), gap.Slot(n, moves+1, line)
				if line == moved && (old != from || now != to) || line != moved && old != now {
					t.Fatal(n, moves, line, old, now)
				}
			}
		}
	}
}

// P8.3: in n + 1 moves each line moves on, by one slot (over the gap by two), and in (n + 1) n all are where they were, not earlier.
func TestRounds(t *testing.T) {
	for _, n := range []int{1, 2, 3, 5, 16, 40} {
		for _, moves := range []int{0, 1, n, n + 1, n + 2, 5*n + 3, 1 << 40} {
			for line := range n {
				old, now := gap.Slot(n, moves, line), gap.Slot(n, moves+n+1, line)
				want := (old + 1) % (n + 1)
				if want == gap.Gap(n, moves) {
					want = (want + 1) % (n + 1)
				}
				if now != want {
					t.Fatal(n, moves, line, old, now)
				}
			}
			start := told(n, moves)
			for on := 1; on < n*(n+1); on++ {
				if slices.Equal(told(n, moves+on), start) {
					t.Fatal(n, moves, on)
				}
			}
			if !slices.Equal(told(n, moves+n*(n+1)), start) {
				t.Fatal(n, moves)
			}
		}
	}
}

// R6: asked in another order, and again, the answers are the same.
func TestSameAgain(t *testing.T) {
	first := told(7, 30)
	for moves := 60; moves >= 0; moves-- {
		told(7, moves)
		gap.Move(7, moves)
	}
	if again := told(7, 30); !slices.Equal(first, again) {
		t.Error(first, again)
	}
}
