package spare_test

import (
	"math"
	"slices"
	"testing"

	"darning/api"
	"darning/spare"
)

// numbers are ordinary ones and those at the edges of an int.
func numbers() []int {
	return []int{math.MinInt, math.MinInt + 1, -1 << 32, -5, -2, -1, 0, 1, 2, 3, 4, 5, 6, 7, api.MaxLines, 1 << 32, math.MaxInt - 1, math.MaxInt}
}

// words are those that mean something for 1 to 3 slots, the ones behind them, and some that a smaller kind of number would take for them.
func words() []uint64 {
	return []uint64{0, 1, 2, 3, 4, 5, 1 << 32, 1<<32 + 1, 1 << 63, math.MaxUint64}
}

// tables are all of up to so many words.
func tables(most int, words []uint64) [][]uint64 {
	l := [][]uint64{nil}
	for from, n := 0, 0; n < most; n++ {
		to := len(l)
		for _, t := range l[from:to] {
			for _, w := range words {
				l = append(l, append(slices.Clone(t), w))
			}
		}
		from = to
	}
	return l
}

// may is what the chapter says, word for word.
func may(table []uint64, slots int) bool {
	if slots < 1 {
		return false
	}
	for i, w := range table {
		if w > 0 && w-1 > uint64(slots) {
			return false
		}
		for _, behind := range table[i+1:] {
			if w == 0 && behind != 0 {
				return false
			}
		}
	}
	return true
}

// place goes through the table from its first word on: the last one that is the slot's stays.
func place(table []uint64, slots, slot int) int {
	if slots < 1 || slot < 0 || slot > slots-1 {
		return -1
	}
	at := slot
	for i, w := range table {
		if w != 0 && w-1 == uint64(slot) {
			at = slots + i
		}
	}
	return at
}

// zeros tells the places of the words that are 0.
func zeros(table []uint64) []int {
	var l []int
	for i, w := range table {
		if w == 0 {
			l = append(l, i)
		}
	}
	return l
}

// P6.1: May, worked out by hand.
func TestMayRows(t *testing.T) {
	for i, x := range []struct {
		table []uint64
		slots int
		want  bool
	}{
		{nil, 1, true}, {[]uint64{}, 1, true}, {nil, 0, false}, {[]uint64{}, 0, false}, {nil, -1, false}, {nil, math.MinInt, false}, {nil, math.MaxInt, true},
		{[]uint64{0}, 0, false}, {[]uint64{1}, 0, false}, {[]uint64{0}, -1, false}, {[]uint64{0, 0}, math.MinInt, false},
		{[]uint64{3, 0}, 5, true}, {[]uint64{0, 3}, 5, false}, {[]uint64{0, 0, 0}, 5, true}, {[]uint64{3, 0, 0, 2}, 5, false}, {[]uint64{3, 0, 2, 0}, 5, false}, {[]uint64{0, 6}, 5, false},
		// Slots 0 to 4 have the words 1 to 5; 6 is dead; there is no 7.
		{[]uint64{1}, 5, true}, {[]uint64{5}, 5, true}, {[]uint64{6}, 5, true}, {[]uint64{7}, 5, false}, {[]uint64{6, 6, 6, 0}, 5, true}, {[]uint64{1, 7, 0}, 5, false}, {[]uint64{1, 2, 7}, 5, false},
		{[]uint64{1}, 1, true}, {[]uint64{2}, 1, true}, {[]uint64{3}, 1, false},
		// A slot may have several, in any order.
		{[]uint64{2, 2, 2}, 5, true}, {[]uint64{5, 1, 6, 1, 5}, 5, true},
		{[]uint64{math.MaxUint64}, 5, false}, {[]uint64{1 << 63}, 5, false}, {[]uint64{1 << 32}, 5, false}, {[]uint64{1<<32 + 1}, 5, false},
		{[]uint64{1 << 63}, math.MaxInt, true}, {[]uint64{1<<63 + 1}, math.MaxInt, false}, {[]uint64{1<<63 - 1}, math.MaxInt - 1, true}, {[]uint64{1 << 63}, math.MaxInt - 1, false}, {[]uint64{math.MaxUint64}, math.MaxInt, false},
	} {
		if got := spare.May(x.table, x.slots); got != x.want {
			t.Errorf("row %d: %v", i, got)
		}
	}
}

// P6.1: Dead is the word behind those of all slots.
func TestDead(t *testing.T) {
	for slots, want := range map[int]uint64{1: 2, 2: 3, 5: 6, api.MaxLines: api.MaxLines + 1, 1 << 32: 1<<32 + 1, math.MaxInt - 1: math.MaxInt, math.MaxInt: 1 << 63, 0: 0, -1: 0, -2: 0, -1 << 32: 0, math.MinInt: 0} {
		if got := spare.Dead(slots); got != want {
			t.Errorf("%d slots: %d", slots, got)
		}
	}
}

// P6.1: Next and Left, worked out by hand, also of tables that may not be.
func TestNextLeftRows(t *testing.T) {
	for i, x := range []struct {
		table      []uint64
		next, left int
	}{
		{nil, -1, 0}, {[]uint64{}, -1, 0}, {[]uint64{0}, 0, 1}, {[]uint64{1}, -1, 0}, {[]uint64{3, 0}, 1, 1}, {[]uint64{3, 6, 0, 0, 0}, 2, 3}, {[]uint64{1, 2, 3}, -1, 0},
		{make([]uint64, api.MaxSpare), 0, api.MaxSpare}, {[]uint64{0, 3}, 0, 1}, {[]uint64{3, 0, 2, 0, 1}, 1, 2}, {[]uint64{math.MaxUint64, 1 << 32, 1 << 63, 0}, 3, 1},
	} {
		if next, left := spare.Next(x.table), spare.Left(x.table); next != x.next || left != x.left {
			t.Errorf("row %d: %d, %d", i, next, left)
		}
	}
}

// P6.2: Place, worked out by hand, the document's example first.
func TestPlaceRows(t *testing.T) {
	for i, x := range []struct {
		table       []uint64
		slots, slot int
		want        int
	}{
		{[]uint64{3, 0}, 5, 2, 5}, {[]uint64{3, 0}, 5, 0, 0}, {[]uint64{3, 0}, 5, 3, 3}, {[]uint64{3, 0}, 5, 4, 4}, {[]uint64{3, 0}, 5, 5, -1}, {[]uint64{3, 0}, 5, -1, -1},
		{nil, 5, 0, 0}, {nil, 5, 4, 4}, {nil, 5, 5, -1}, {nil, 1, 0, 0}, {nil, 1, 1, -1}, {nil, 0, 0, -1}, {nil, 0, -1, -1}, {nil, -3, -4, -1}, {nil, -3, -3, -1}, {nil, -3, 0, -1},
		// The last one that was given to it.
		{[]uint64{3, 3, 0}, 5, 2, 6}, {[]uint64{3, 1, 3, 1, 0}, 5, 2, 7}, {[]uint64{3, 1, 3, 1, 0}, 5, 0, 8}, {[]uint64{1, 1, 1}, 1, 0, 3},
		// Dead ones and free ones are no slot's.
		{[]uint64{6, 6, 0}, 5, 4, 4}, {[]uint64{6, 5, 6}, 5, 4, 6}, {[]uint64{0, 0}, 5, 0, 0}, {[]uint64{6}, 5, 5, -1}, {[]uint64{0}, 5, -1, -1}, {[]uint64{2}, 1, 0, 0}, {[]uint64{2}, 1, 1, -1},
		// So it is, too, where the table may not be.
		{[]uint64{0, 3}, 5, 2, 6}, {[]uint64{7}, 5, 5, -1}, {[]uint64{7}, 5, 6, -1}, {[]uint64{1<<32 + 1}, 5, 0, 0}, {[]uint64{1<<63 + 1}, 5, 0, 0}, {[]uint64{math.MaxUint64}, 5, 0, 0}, {[]uint64{1}, 0, 0, -1}, {[]uint64{0}, 0, -1, -1},
		{nil, 5, math.MaxInt, -1}, {nil, 5, math.MinInt, -1}, {nil, math.MinInt, 0, -1}, {nil, math.MinInt, math.MinInt, -1}, {nil, math.MinInt, math.MaxInt, -1},
	} {
		if got := spare.Place(x.table, x.slots, x.slot); got != x.want {
			t.Errorf("row %d: %d", i, got)
		}
	}
}

// P6.2, R1: with as many slots as an int has room for, each number that is told is a right one, or there is no such line.
func TestPlaceOfMostSlots(t *testing.T) {
	const last = math.MaxInt - 1
	for i, x := range []struct {
		table       []uint64
		slots, slot int
		want        int
	}{
		{nil, math.MaxInt, last, last}, {nil, math.MaxInt, math.MaxInt, -1}, {nil, math.MaxInt, 0, 0},
		{[]uint64{math.MaxInt}, math.MaxInt, last, math.MaxInt}, {[]uint64{1}, math.MaxInt, 0, math.MaxInt}, {[]uint64{2}, math.MaxInt, 0, 0}, {[]uint64{1 << 63}, math.MaxInt, last, last},
		{[]uint64{2, 1}, math.MaxInt - 1, 0, math.MaxInt}, {[]uint64{2, 1}, math.MaxInt - 1, 1, math.MaxInt - 1},
		{[]uint64{2, 1}, math.MaxInt, 0, -1}, {[]uint64{2, 1}, math.MaxInt, 1, math.MaxInt}, {[]uint64{1, 1}, math.MaxInt, 0, -1}, {[]uint64{3, 2, 1}, math.MaxInt - 1, 0, -1}, {[]uint64{3, 2, 1}, math.MaxInt - 1, 1, math.MaxInt},
	} {
		if got := spare.Place(x.table, x.slots, x.slot); got != x.want {
			t.Errorf("row %d: %d", i, got)
		}
	}
}

// P6.1, P6.2: all of it, of all small tables.
func TestEachTable(t *testing.T) {
	for _, table := range tables(4, words()) {
		free := zeros(table)
		next := -1
		if len(free) > 0 {
			next = free[0]
		}
		if got := spare.Next(table); got != next {
			t.Fatalf("%v: next %d", table, got)
		}
		if got := spare.Left(table); got != len(free) {
			t.Fatalf("%v: left %d", table, got)
		}
		for slots := -1; slots <= 4; slots++ {
			if got := spare.May(table, slots); got != may(table, slots) {
				t.Fatalf("%v, %d slots: %v", table, slots, got)
			}
			for slot := -2; slot <= 5; slot++ {
				if got := spare.Place(table, slots, slot); got != place(table, slots, slot) {
					t.Fatalf("%v, slot %d of %d: %d", table, slot, slots, got)
				}
			}
		}
	}
}

// P6.3: no two slots have one line, and each has one that there is, whatever the table.
func TestNoTwoHaveOne(t *testing.T) {
	for _, table := range tables(5, []uint64{0, 1, 2, 3, 4, math.MaxUint64}) {
		for slots := 1; slots <= 4; slots++ {
			var whose [9]bool
			for slot := range slots {
				at := spare.Place(table, slots, slot)
				if at < 0 || at >= slots+len(table) || whose[at] {
					t.Fatalf("%v, slot %d of %d: %d", table, slot, slots, at)
				}
				if at < slots && at != slot {
					t.Fatalf("%v, slot %d of %d: %d, another's own", table, slot, slots, at)
				}
				whose[at] = true
			}
		}
	}
}

// P6.1 to P6.3: the spare ones are given away one by one, as many slots and spare ones as a heap can have: each goes to a slot, or is dead.
func TestGivenAway(t *testing.T) {
	const slots = api.MaxLines
	for seed := range uint64(300) {
		table := make([]uint64, api.MaxSpare)
		var at [slots]int
		for slot := range slots {
			at[slot] = slot
		}
		for given := range api.MaxSpare {
			if spare.Next(table) != given || spare.Left(table) != api.MaxSpare-given {
				t.Fatalf("%v: next %d, left %d", table, spare.Next(table), spare.Left(table))
			}
			seed = seed*6364136223846793005 + 1442695040888963407
			table[given] = spare.Dead(slots)
			if seed>>33%4 != 0 {
				slot := seed >> 40 % 6 * 12
				table[given] = slot + 1
				at[slot] = slots + given
			}
			if !spare.May(table, slots) {
				t.Fatalf("%v may not be", table)
			}
			for slot := range slots {
				if got := spare.Place(table, slots, slot); got != at[slot] {
					t.Fatalf("%v, slot %d: %d, not %d", table, slot, got, at[slot])
				}
			}
		}
		if spare.Next(table) != -1 || spare.Left(table) != 0 {
			t.Fatalf("%v: next %d, left %d", table, spare.Next(table), spare.Left(table))
		}
	}
}

// R3: every call ends without a panic, whatever is handed in.
func TestWhatever(t *testing.T) {
	for _, table := range tables(2, append(words(), math.MaxInt, math.MaxInt-1)) {
		for _, slots := range numbers() {
			if got := spare.May(table, slots); got != may(table, slots) {
				t.Errorf("%v, %d slots: %v", table, slots, got)
			}
			for _, slot := range numbers() {
				at, there := spare.Place(table, slots, slot), slot >= 0 && slot < slots
				// Of MaxInt slots a slot can have a spare line whose number is beyond an int.
				if there != (at >= 0) && slots < math.MaxInt || at < -1 || !there && at != -1 {
					t.Errorf("%v, slot %d of %d: %d", table, slot, slots, at)
				}
			}
		}
	}
}

// R2, R6: a table stays as it is, what lies behind its length is not asked, and asked again each call tells the same.
func TestTableStays(t *testing.T) {
	for _, behind := range []uint64{0, 1, 2, 3, 4, 99} {
		for _, table := range tables(3, []uint64{0, 1, 2, 3, 4}) {
			long := append(slices.Clone(table), behind, behind, behind)
			was := slices.Clone(long)
			cut := long[:len(table)]
			for range 2 {
				if spare.May(cut, 2) != may(table, 2) || spare.Left(cut) != len(zeros(table)) || spare.Next(cut) != slices.Index(table, 0) {
					t.Fatalf("%v ahead of %d: %v, %d, %d", table, behind, spare.May(cut, 2), spare.Left(cut), spare.Next(cut))
				}
				for slot := range 3 {
					if got := spare.Place(cut, 2, slot); got != place(table, 2, slot) {
						t.Fatalf("%v ahead of %d, slot %d: %d", table, behind, slot, got)
					}
				}
			}
			if !slices.Equal(long, was) {
				t.Fatalf("%v became %v", was, long)
			}
		}
	}
}
