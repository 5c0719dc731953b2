package lines_test

import (
	"fmt"
	"math"
	"slices"
	"testing"

	"darning/api"
	"darning/lines"
	"darning/nvm"
	"darning/spare"
	"darning/torn"
)

const most = 200

var (
	old = api.Line{1, 2, 3, 4, 5, 6, 7, 8}
	now = api.Line{11, 12, 13, 14, 15, 16, 17, 18}
)

// edges are numbers that no slot has, whatever memory it is.
func edges() []int {
	return []int{math.MinInt, math.MinInt + 1, -1 << 32, -most, -2, -1, most, most + 1, 1 << 32, 1<<32 + 1, math.MaxInt - 1, math.MaxInt}
}

func own(i int) api.Line {
	var l api.Line
	for k := range l {
		l[k] = uint64(1000*k + i + 1)
	}
	return l
}

// give lays words in the table's registers.
func give(t *testing.T, m *nvm.Memory, words ...uint64) {
	t.Helper()
	for i, w := range words {
		if err := m.Set(api.RTable+i, w); err != api.OK {
			t.Fatalf("word %d: %d", i, err)
		}
	}
}

// words tells the table's first n words.
func words(t *testing.T, m *nvm.Memory, n int) []uint64 {
	t.Helper()
	var l []uint64
	for i := range n {
		w, err := m.Reg(api.RTable + i)
		if err != api.OK {
			t.Fatalf("word %d: %d", i, err)
		}
		l = append(l, w)
	}
	return l
}

// holds tells what the slots hold.
func holds(t *testing.T, l *lines.Lines) []api.Line {
	t.Helper()
	var all []api.Line
	for slot := range l.Slots() {
		d, err := l.Get(slot)
		if err != api.OK {
			t.Fatalf("slot %d: %d", slot, err)
		}
		all = append(all, d)
	}
	return all
}

// image is all that a memory holds.
type image struct {
	lines  [most]api.Line
	wear   [most]int
	regs   [api.Regs]uint64
	writes int
}

// read tells all of a memory that has power.
func read(t *testing.T, m *nvm.Memory) image {
	t.Helper()
	x := image{writes: m.Writes()}
	for i := range m.Lines() {
		l, err := m.Get(i)
		if err != api.OK {
			t.Fatalf("line %d: %d", i, err)
		}
		x.lines[i], x.wear[i] = l, m.Wear(i)
	}
	for i := range api.Regs {
		v, err := m.Reg(i)
		if err != api.OK {
			t.Fatalf("register %d: %d", i, err)
		}
		x.regs[i] = v
	}
	return x
}

// P7.1: slots and spares are just the memory's lines, 1 or more and 0 to 16.
func TestNew(t *testing.T) {
	numbers := append(edges(), 0, 1, 2, 3, 4, 14, 15, 16, 17, 18, most-17, most-16, most-15, most-1)
	for _, n := range []int{1, 2, 3, 15, 16, 17, 18, 33, most - 1, most} {
		m := nvm.New(n, nil)
		for spares := -3; spares <= 20; spares++ {
			for _, slots := range append(numbers, n-spares, n-spares-1, n-spares+1) {
				want := slots >= 1 && slots == n-spares && spares >= 0 && spares <= 16
				l := lines.New(m, slots, spares)
				if (l != nil) != want {
					t.Fatalf("%d lines: %d slots, %d spares: %v", n, slots, spares, l != nil)
				}
				if want && (l.Slots() != slots || l.Left() != spares) {
					t.Errorf("%d lines: %d slots, %d spares: %d, %d left", n, slots, spares, l.Slots(), l.Left())
				}
			}
		}
		for _, spares := range edges() {
			if n != spares && lines.New(m, n, spares) != nil || lines.New(m, 1, spares) != nil {
				t.Errorf("%d lines, %d spares", n, spares)
			}
		}
	}
	if lines.New(nil, 1, 0) != nil || lines.New(nil, 0, 0) != nil || lines.New(new(nvm.Memory), 0, 0) != nil || lines.New(new(nvm.Memory), 1, 0) != nil {
		t.Error("of no memory, or one without lines")
	}
}

// P7.1: the table may be one: of just as many registers as there are spares, from RTable on.
func TestNewTable(t *testing.T) {
	for i, x := range []struct {
		table  []uint64
		slots  int
		spares int
		left   int // -1: it may not be
	}{
		{[]uint64{0, 0}, 4, 2, 2}, {[]uint64{1, 0}, 4, 2, 1}, {[]uint64{4, 4}, 4, 2, 0}, {[]uint64{5, 0}, 4, 2, 1}, {[]uint64{5, 5}, 4, 2, 0},
		{[]uint64{6, 0}, 4, 2, -1}, {[]uint64{1, 6}, 4, 2, -1}, {[]uint64{0, 1}, 4, 2, -1}, {[]uint64{0, 5}, 4, 2, -1}, {[]uint64{1, 0, 1}, 4, 3, -1},
		{[]uint64{math.MaxUint64}, 4, 1, -1}, {[]uint64{1 << 63}, 4, 1, -1}, {[]uint64{1<<32 + 1}, 4, 1, -1},
		// Words behind the spare ones are nobody's.
		{[]uint64{0, 1}, 4, 1, 1}, {[]uint64{1, 6}, 4, 1, 0}, {[]uint64{9, 9}, 4, 0, 0}, {[]uint64{1, 0, 1}, 4, 2, 1}, {[]uint64{0, 0, math.MaxUint64}, 4, 2, 2},
		{[]uint64{1, 2, 1}, 1, 3, 0}, {[]uint64{1, 2, 3}, 1, 3, -1},
	} {
		m := nvm.New(x.slots+x.spares, nil)
		give(t, m, x.table...)
		l := lines.New(m, x.slots, x.spares)
		if (l != nil) != (x.left >= 0) || l != nil && l.Left() != x.left {
			t.Errorf("row %d: %v, %d left", i, l != nil, l.Left())
		}
	}
	// All sixteen registers, and no other, are the table.
	for place := range api.Regs {
		m := nvm.New(20, nil)
		m.Set(place, 99)
		is := place >= api.RTable && place < api.RTable+api.MaxSpare
		if got := lines.New(m, 4, 16) == nil; got != is {
			t.Errorf("register %d: %v", place, got)
		}
	}
}

// P7.1: there is none without power, also where there is no table to be asked; nothing is written, and no Cut comes nearer.
func TestNewPower(t *testing.T) {
	for spares := range 17 {
		m := nvm.New(4+spares, nil)
		m.Put(1, old)
		give(t, m, slices.Repeat([]uint64{2}, spares)...)
		was := read(t, m)
		m.Cut(0, 0)
		if lines.New(m, 4, spares) == nil || read(t, m) != was || m.Down() {
			t.Errorf("%d spares: no lines, or they wrote", spares)
		}
		m.Set(0, 1)
		if !m.Down() || lines.New(m, 4, spares) != nil {
			t.Errorf("%d spares: lines without power", spares)
		}
		m.Power()
		if lines.New(m, 4, spares) == nil {
			t.Errorf("%d spares: no lines, though the power came", spares)
		}
	}
}

// P7.1: a slot holds what the last spare line holds that was given to it, or its own.
func TestGet(t *testing.T) {
	m := nvm.New(9, nil)
	for i := range 9 {
		m.Put(i, own(i))
	}
	give(t, m, 3, 6, 3, 1)
	l := lines.New(m, 5, 4)
	was := read(t, m)
	for slot, at := range []int{8, 1, 7, 3, 4} {
		if d, err := l.Get(slot); d != own(at) || err != api.OK {
			t.Errorf("slot %d: %v, %d, not line %d's", slot, d, err, at)
		}
	}
	for _, slot := range append(edges(), 5, 6, 8, 9) {
		if d, err := l.Get(slot); d != (api.Line{}) || err != api.ErrArg {
			t.Errorf("slot %d: %v, %d", slot, d, err)
		}
	}
	if read(t, m) != was || l.Slots() != 5 || l.Left() != 0 {
		t.Error("what asks wrote")
	}
}

// P7.2: lines that fail are replaced, by the next spare line that doesn't; the document's example first.
func TestPutRows(t *testing.T) {
	for i, x := range []struct {
		slots  int
		spares int
		limits []int
		puts   []int // slots
		errs   []api.Errno
		table  []uint64
		writes int
	}{
		{1, 2, []int{0}, []int{0}, []api.Errno{0}, []uint64{1, 0}, 3},
		{2, 2, nil, []int{0, 1, 0}, []api.Errno{0, 0, 0}, []uint64{0, 0}, 3},
		{2, 0, []int{1}, []int{0, 0, 1}, []api.Errno{0, api.ErrWorn, 0}, nil, 3},
		// Both slots wear out, and again: each spare line is written once, and its word once.
		{2, 4, []int{0, 0, 1, 1}, []int{1, 0, 1, 0}, []api.Errno{0, 0, 0, 0}, []uint64{2, 1, 2, 1}, 12},
		// Spare lines that fail at once are dead, and the same Put goes on.
		{2, 4, []int{0, -1, 0, 0, 0}, []int{0, 0}, []api.Errno{0, 0}, []uint64{3, 3, 3, 1}, 10},
		{2, 3, []int{1, -1, 0, 0, 0}, []int{0, 0, 0, 1}, []api.Errno{0, api.ErrWorn, api.ErrWorn, 0}, []uint64{3, 3, 3}, 1 + 7 + 1 + 1},
		{3, 2, []int{0, 0, 0, 0, 1}, []int{2, 2, 0, 1}, []api.Errno{0, api.ErrWorn, api.ErrWorn, api.ErrWorn}, []uint64{4, 3}, 5 + 1 + 1 + 1},
		// The last slot's word, and that of a dead one behind it.
		{3, 3, []int{-1, -1, 0, 1, 0, 1}, []int{2, 2, 2}, []api.Errno{0, 0, api.ErrWorn}, []uint64{3, 4, 3}, 3 + 5 + 1},
	} {
		m := nvm.New(x.slots+x.spares, x.limits)
		l := lines.New(m, x.slots, x.spares)
		want := make([]api.Line, x.slots)
		for k, slot := range x.puts {
			if err := l.Put(slot, own(k)); err != x.errs[k] {
				t.Errorf("row %d, put %d: %d", i, k, err)
			}
			if x.errs[k] == api.OK {
				want[slot] = own(k)
			}
			if got := holds(t, l); !slices.Equal(got, want) {
				t.Errorf("row %d, put %d: %v, not %v", i, k, got, want)
			}
		}
		if got := words(t, m, x.spares); !slices.Equal(got, x.table) || m.Writes() != x.writes || l.Left() != spare.Left(x.table) {
			t.Errorf("row %d: %v, %d writes, %d left", i, got, m.Writes(), l.Left())
		}
	}
}

// P7.2: all spare lines that a heap can have, and as many slots, one after another; the registers beside the table stay.
func TestPutTillNoneIsLeft(t *testing.T) {
	const slots, spares = most - api.MaxSpare, api.MaxSpare
	limits := slices.Repeat([]int{1}, most)
	m := nvm.New(most, limits)
	for i := range api.Regs {
		if i < api.RTable || i >= api.RCount {
			m.Set(i, uint64(7000+i))
		}
	}
	l := lines.New(m, slots, spares)
	for slot := range slots {
		if err := l.Put(slot, own(slot)); err != api.OK || l.Left() != spares {
			t.Fatalf("slot %d: %d, %d left", slot, err, l.Left())
		}
	}
	for k := range spares {
		if err := l.Put(slots-1-k/2, own(1000+k)); err != api.OK || l.Left() != spares-1-k {
			t.Errorf("replaced %d: %d, %d left", k, err, l.Left())
		}
	}
	was := read(t, m)
	for slot := range slots {
		if err := l.Put(slot, now); err != api.ErrWorn || l.Left() != 0 {
			t.Errorf("slot %d: %d, %d left", slot, err, l.Left())
		}
		want := own(slot)
		if back := slots - 1 - slot; back < spares/2 {
			want = own(1000 + 2*back + 1)
		}
		if d, err := l.Get(slot); d != want || err != api.OK {
			t.Errorf("slot %d: %v, %d", slot, d, err)
		}
	}
	got := read(t, m)
	if got.lines != was.lines || got.regs != was.regs || got.writes != was.writes+slots {
		t.Error("what no spare line was left for wrote more than itself")
	}
	for i, v := range got.regs {
		if (i < api.RTable || i >= api.RCount) && v != uint64(7000+i) {
			t.Errorf("register %d: %d", i, v)
		}
	}
}

// P7.2, R4: a slot that isn't there comes first, then the power; neither writes.
func TestRefused(t *testing.T) {
	for spares := range 4 {
		m := nvm.New(3+spares, []int{0, 1})
		l := lines.New(m, 3, spares)
		l.Put(1, old)
		was := read(t, m)
		for _, slot := range append(edges(), 3, 4, 6, 7) {
			if err := l.Put(slot, now); err != api.ErrArg {
				t.Errorf("slot %d: %d", slot, err)
			}
		}
		if read(t, m) != was {
			t.Error("what isn't there was written")
		}
		m.Cut(0, 0)
		m.Set(0, 1)
		for slot := range 3 {
			if d, err := l.Get(slot); d != (api.Line{}) || err != api.ErrDown || l.Put(slot, now) != api.ErrDown {
				t.Errorf("slot %d: %v, %d", slot, d, err)
			}
		}
		for _, slot := range append(edges(), 3) {
			if d, err := l.Get(slot); d != (api.Line{}) || err != api.ErrArg || l.Put(slot, now) != api.ErrArg {
				t.Errorf("slot %d without power: %v, %d", slot, d, err)
			}
		}
		if l.Left() != 0 || l.Slots() != 3 {
			t.Errorf("%d left, %d slots", l.Left(), l.Slots())
		}
		m.Power()
		was.writes++
		if read(t, m) != was || l.Left() != spares {
			t.Error("something was done without power")
		}
	}
}

// P7.2: nothing but the table tells whose a spare line is: all that are made on one memory agree, and follow what is Set.
func TestTableIsTheMemorys(t *testing.T) {
	m := nvm.New(6, []int{0, 0, -1, 1})
	a, b := lines.New(m, 3, 3), lines.New(m, 3, 3)
	c := *a
	for k, l := range []*lines.Lines{a, b, &c} {
		if err := l.Put(k%2, own(k)); err != api.OK {
			t.Errorf("put %d: %d", k, err)
		}
		for _, x := range []*lines.Lines{a, b, &c, lines.New(m, 3, 3)} {
			if d, err := x.Get(k % 2); d != own(k) || err != api.OK || x.Left() != 2-k {
				t.Errorf("put %d: %v, %d, %d left", k, d, err, x.Left())
			}
		}
	}
	if got := fmt.Sprint(words(t, m, 3)); got != "[1 2 1]" {
		t.Error(got)
	}
	give(t, m, 2, 0, 0)
	if d, err := a.Get(1); d != own(0) || err != api.OK || a.Left() != 2 {
		t.Errorf("%v, %d, %d left", d, err, a.Left())
	}
	if err := a.Put(0, now); err != api.OK || fmt.Sprint(words(t, m, 3)) != "[2 1 0]" {
		t.Error(err, words(t, m, 3))
	}
}

// P7.2, R3: also where the table became one that may not be, each call ends, and does what the words say.
func TestTableThatMayNotBe(t *testing.T) {
	for i, x := range []struct {
		table []uint64
		want  []uint64 // behind a Put of slot 0, whose line is worn
		err   api.Errno
	}{
		{[]uint64{9, 9, 9}, []uint64{9, 9, 9}, api.ErrWorn},
		{[]uint64{math.MaxUint64, 0, 1 << 63}, []uint64{math.MaxUint64, 1, 1 << 63}, api.OK},
		{[]uint64{0, 2, 0}, []uint64{1, 2, 0}, api.OK},
		{[]uint64{0, 1, 0}, []uint64{0, 1, 0}, api.OK},
	} {
		m := nvm.New(5, []int{0})
		l := lines.New(m, 2, 3)
		give(t, m, x.table...)
		if l.Left() != spare.Left(x.table) {
			t.Errorf("row %d: %d left", i, l.Left())
		}
		if err := l.Put(0, now); err != x.err || !slices.Equal(words(t, m, 3), x.want) {
			t.Errorf("row %d: %d, %v", i, err, words(t, m, 3))
		}
		if d, err := l.Get(0); err != api.OK || (d == now) != (x.err == api.OK) {
			t.Errorf("row %d: %v, %d", i, d, err)
		}
	}
}

// atCut tells lines of three slots, all of which hold something, ahead of a Put of slot 0 at which the power goes.
func atCut(t *testing.T, limits []int) (*nvm.Memory, *lines.Lines) {
	t.Helper()
	m := nvm.New(6, limits)
	l := lines.New(m, 3, 3)
	for slot, d := range []api.Line{old, own(1), own(2)} {
		if err := l.Put(slot, d); err != api.OK {
			t.Fatalf("%v: slot %d: %d", limits, slot, err)
		}
	}
	return m, l
}

// P7.3: whenever the power goes in a Put, the slot holds what it held or what was put; a mix, where its line did not fail; the other slots stay.
func TestCut(t *testing.T) {
	for _, first := range []int{1, 2, -1} {
		for c := range 27 {
			limits := []int{first, -1, -1, c%3 - 1, c/3%3 - 1, c/9 - 1}
			for n := range 8 {
				for mask := range 256 {
					m, l := atCut(t, limits)
					m.Cut(n, mask)
					err := l.Put(0, now)
					if down := m.Down(); down != (err == api.ErrDown) || down && (l.Left() != 0 || lines.New(m, 3, 3) != nil) {
						t.Fatalf("%v, %d, %d: %d, down %v", limits, n, mask, err, down)
					}
					m.Power()
					again := lines.New(m, 3, 3)
					if again == nil || again.Left() != l.Left() {
						t.Fatalf("%v, %d, %d: %v may not be", limits, n, mask, words(t, m, 3))
					}
					afterCut(t, m, again, err, n, mask, first == 1)
				}
			}
		}
	}
}

// afterCut checks what the slots hold, and that slot 0 can be put anew, as long as there is a line for it.
func afterCut(t *testing.T, m *nvm.Memory, l *lines.Lines, err api.Errno, n, mask int, failed bool) {
	t.Helper()
	got := holds(t, l)
	fine := got[0] == old && err != api.OK || got[0] == now && err != api.ErrWorn
	if err == api.ErrDown && !failed {
		fine = n == 0 && got[0] == torn.Mix(old, now, mask)
	}
	if !fine || got[1] != own(1) || got[2] != own(2) {
		t.Fatalf("%d, %d: %d, %v", n, mask, err, got)
	}
	next := l.Put(0, own(9))
	if next == api.OK {
		got[0] = own(9)
	}
	if next != api.OK && (next != api.ErrWorn || l.Left() != 0) || !slices.Equal(holds(t, l), got) {
		t.Fatalf("%d, %d: then %d, %v", n, mask, next, holds(t, l))
	}
}

// P7.3: a register last: the word is a slot's only when the spare line holds all that was put, and the Put is done by that register alone.
func TestRegisterLast(t *testing.T) {
	for n, want := range []struct {
		table string // where the power goes at a register, by a mask without bit 0, and with it
		with  string
		done  bool // with it
	}{{"[0 0 0]", "[0 0 0]", false}, {"[0 0 0]", "[0 0 0]", false}, {"[0 0 0]", "[4 0 0]", false}, {"[4 0 0]", "[4 0 0]", false}, {"[4 0 0]", "[4 1 0]", true}} {
		for mask := range 256 {
			m, l := atCut(t, []int{1, -1, -1, 0})
			m.Cut(n, mask)
			if err := l.Put(0, now); err != api.ErrDown {
				t.Fatalf("%d, %d: %d", n, mask, err)
			}
			m.Power()
			table, held := want.table, old
			if mask%2 == 1 {
				table = want.with
			}
			if mask%2 == 1 && want.done {
				held = now
			}
			d, err := l.Get(0)
			if got := fmt.Sprint(words(t, m, 3)); got != table || d != held || err != api.OK {
				t.Errorf("%d, %d: %s, %v, %d", n, mask, got, d, err)
			}
		}
	}
}

// R3: nil lines, and those that New didn't make, tell zero values, and ErrArg.
func TestNil(t *testing.T) {
	for _, l := range []*lines.Lines{nil, new(lines.Lines)} {
		for _, slot := range append(edges(), 0, 1) {
			if d, err := l.Get(slot); d != (api.Line{}) || err != api.ErrArg || l.Put(slot, now) != api.ErrArg {
				t.Errorf("slot %d: %v, %d", slot, d, err)
			}
		}
		if l.Slots() != 0 || l.Left() != 0 {
			t.Error(l.Slots(), l.Left())
		}
	}
}
