package turn_test

import (
	"fmt"
	"math"
	"slices"
	"testing"

	"darning/api"
	"darning/nvm"
	"darning/torn"
	"darning/turn"
)

const (
	most      = 200
	mostMoves = 1 << 40
)

var (
	old = api.Line{1, 2, 3, 4, 5, 6, 7, 8}
	now = api.Line{11, 12, 13, 14, 15, 16, 17, 18}
)

// edges are numbers that no line has, whatever memory it is.
func edges() []int {
	return []int{math.MinInt, math.MinInt + 1, -1 << 32, -most, -2, -1, most, most + 1, 1 << 32, 1<<32 + 1, math.MaxInt - 1, math.MaxInt}
}

func own(i int) api.Line {
	var l api.Line
	for k := range l {
		l[k] = uint64(1000*k + i + 1)
	}
	return l
}

// owns are the lines that are own of 0 to n - 1.
func owns(n int) []api.Line {
	var all []api.Line
	for i := range n {
		all = append(all, own(i))
	}
	return all
}

func set(t *testing.T, m *nvm.Memory, i int, v uint64) {
	t.Helper()
	if err := m.Set(i, v); err != api.OK {
		t.Fatalf("register %d: %d", i, err)
	}
}

// kept tells RMoves.
func kept(t *testing.T, m *nvm.Memory) uint64 {
	t.Helper()
	v, err := m.Reg(api.RMoves)
	if err != api.OK {
		t.Fatal(err)
	}
	return v
}

// holds tells what the lines hold.
func holds(t *testing.T, x *turn.Turn) []api.Line {
	t.Helper()
	var all []api.Line
	for line := range x.Lines() {
		d, err := x.Get(line)
		if err != api.OK {
			t.Fatalf("line %d: %d", line, err)
		}
		all = append(all, d)
	}
	return all
}

// put puts each line, and tells how it came out.
func put(x *turn.Turn, all []api.Line) []api.Errno {
	var errs []api.Errno
	for line, d := range all {
		errs = append(errs, x.Put(line, d))
	}
	return errs
}

// image is all that a memory holds.
type image struct {
	lines  [most]api.Line
	wear   [most]int
	regs   [api.Regs]uint64
	writes int
}

// read tells all of a memory that has power.
func read(t *testing.T, m *nvm.Memory) image {
	t.Helper()
	x := image{writes: m.Writes()}
	for i := range m.Lines() {
		l, err := m.Get(i)
		if err != api.OK {
			t.Fatalf("line %d: %d", i, err)
		}
		x.lines[i], x.wear[i] = l, m.Wear(i)
	}
	for i := range api.Regs {
		v, err := m.Reg(i)
		if err != api.OK {
			t.Fatalf("register %d: %d", i, err)
		}
		x.regs[i] = v
	}
	return x
}

// firsts tells the first word of each line of the memory.
func firsts(t *testing.T, m *nvm.Memory) string {
	t.Helper()
	x := read(t, m)
	var l []uint64
	for _, d := range x.lines[:m.Lines()] {
		l = append(l, d[0])
	}
	return fmt.Sprint(l)
}

// P9.1: the lines, one for the gap, and the spare ones are just the memory's.
func TestNewLines(t *testing.T) {
	for _, lines := range []int{1, 2, 3, 17, 18, 19, 33, 97, most - 1, most} {
		m := nvm.New(lines, nil)
		for spares := -3; spares <= 20; spares++ {
			for _, n := range append(edges(), 0, 1, 2, lines, lines-spares, lines-spares-1, lines-spares-2) {
				want := n >= 1 && n+1 == lines-spares && spares >= 0 && spares <= 16
				x := turn.New(m, n, spares, 1)
				if (x != nil) != want {
					t.Fatalf("%d lines: %d, %d spares: %v", lines, n, spares, x != nil)
				}
				if want && (x.Lines() != n || x.Left() != spares || x.Moves() != 0) {
					t.Errorf("%d lines: %d, %d left, %d moves", lines, x.Lines(), x.Left(), x.Moves())
				}
			}
		}
		for _, spares := range edges() {
			for _, n := range append(edges(), 1, lines-1) {
				if turn.New(m, n, spares, 1) != nil {
					t.Errorf("%d lines: %d, %d spares", lines, n, spares)
				}
			}
		}
		if read(t, m) != (image{}) {
			t.Errorf("%d lines: New wrote", lines)
		}
	}
	for _, m := range []*nvm.Memory{nil, new(nvm.Memory)} {
		for _, n := range append(edges(), 0, 1) {
			if turn.New(m, n, 0, 1) != nil || turn.New(m, n, -n-1, 1) != nil {
				t.Errorf("%d of no memory, or one without lines", n)
			}
		}
	}
}

// P9.1: the period is 1 to 1000.
func TestNewPeriod(t *testing.T) {
	m := nvm.New(6, nil)
	for period := -2; period <= 1003; period++ {
		if got := turn.New(m, 5, 0, period) != nil; got != (period >= 1 && period <= 1000) {
			t.Errorf("period %d: %v", period, got)
		}
	}
	for _, period := range []int{math.MinInt, math.MinInt + 1, -1000, -1 << 32, 1<<32 + 1, math.MaxInt - 1, math.MaxInt} {
		if turn.New(m, 5, 0, period) != nil {
			t.Errorf("period %d", period)
		}
	}
}

// P9.1: there were 2^40 moves at most, as register RMoves alone has it.
func TestNewMoves(t *testing.T) {
	for v, want := range map[uint64]bool{0: true, 1: true, 5: true, 1 << 32: true, mostMoves - 1: true, mostMoves: true, mostMoves + 1: false, 1 << 41: false, math.MaxInt: false, 1 << 63: false, 1<<63 + 1: false, math.MaxUint64: false} {
		m := nvm.New(6, nil)
		set(t, m, api.RMoves, v)
		x := turn.New(m, 4, 1, 1)
		if (x != nil) != want || x != nil && x.Moves() != int(v) {
			t.Errorf("%d: %v, %d", v, x != nil, x.Moves())
		}
	}
	for i := range api.Regs {
		m := nvm.New(21, nil)
		set(t, m, i, mostMoves+1)
		if got := turn.New(m, 4, 16, 1) == nil; got != (i < 1 || i >= api.RTable && i < api.RCount) {
			t.Errorf("register %d: %v", i, got)
		}
	}
}

// P9.1: the table is one of n + 1 slots.
func TestNewTable(t *testing.T) {
	for i, c := range []struct {
		table []uint64
		left  int // -1: it may not be
	}{
		{[]uint64{0, 0}, 2}, {[]uint64{5, 0}, 1}, {[]uint64{5, 5}, 0}, {[]uint64{6, 0}, 1}, {[]uint64{6, 6}, 0},
		{[]uint64{7, 0}, -1}, {[]uint64{6, 7}, -1}, {[]uint64{0, 1}, -1}, {[]uint64{0, 0, 9}, 2}, {[]uint64{math.MaxUint64, 0}, -1},
	} {
		m := nvm.New(7, nil)
		for k, w := range c.table {
			set(t, m, api.RTable+k, w)
		}
		x := turn.New(m, 4, 2, 1)
		if (x != nil) != (c.left >= 0) || x != nil && x.Left() != c.left {
			t.Errorf("row %d: %v, %d left", i, x != nil, x.Left())
		}
	}
}

// P9.1: there is none without power; New writes nothing, and no Cut comes nearer.
func TestNewPower(t *testing.T) {
	for spares := range 17 {
		m := nvm.New(5+spares, nil)
		m.Put(1, old)
		set(t, m, api.RMoves, 7)
		was := read(t, m)
		m.Cut(0, 0)
		if turn.New(m, 4, spares, 1) == nil || read(t, m) != was || m.Down() {
			t.Errorf("%d spares: none, or it wrote", spares)
		}
		m.Set(2, 1)
		if !m.Down() || turn.New(m, 4, spares, 1) != nil {
			t.Errorf("%d spares: one without power", spares)
		}
		m.Power()
		if x := turn.New(m, 4, spares, 1); x == nil || x.Moves() != 7 {
			t.Errorf("%d spares: none, though the power came", spares)
		}
	}
}

// P9.1: where the lines stand, worked out by hand: three of them, on slots 0 to 3 (slot 1 is at a spare line).
func TestGetRows(t *testing.T) {
	m := nvm.New(6, nil)
	for i := range 6 {
		m.Put(i, own(i))
	}
	set(t, m, api.RTable, 5)
	set(t, m, api.RTable+1, 2)
	x := turn.New(m, 3, 2, 1)
	rows := [][3]int{{0, 5, 2}, {0, 5, 3}, {0, 2, 3}, {5, 2, 3}, {5, 2, 0}, {5, 3, 0}, {2, 3, 0}, {2, 3, 5}, {2, 0, 5}, {3, 0, 5}, {3, 0, 2}, {3, 5, 2}}
	for _, round := range []uint64{0, 1, 2, mostMoves / 12} {
		for k, want := range rows {
			moves := 12*round + uint64(k)
			set(t, m, api.RMoves, moves)
			was := read(t, m)
			for line, at := range want {
				if d, err := x.Get(line); d != own(at) || err != api.OK {
					t.Errorf("%d moves, line %d: %v, %d, not line %d's", moves, line, d, err, at)
				}
			}
			for _, line := range append(edges(), 3, 4, 5) {
				if d, err := x.Get(line); d != (api.Line{}) || err != api.ErrArg {
					t.Errorf("%d moves, line %d: %v, %d", moves, line, d, err)
				}
			}
			if x.Moves() != int(moves) || x.Lines() != 3 || x.Left() != 0 || read(t, m) != was {
				t.Errorf("%d moves: %d, %d, %d, or what asks wrote", moves, x.Moves(), x.Lines(), x.Left())
			}
		}
	}
}

// P9.2: what the memory holds Put by Put, worked out by hand; the document's example first.
func TestPutRows(t *testing.T) {
	for i, c := range []struct {
		n, period int
		was       uint64 // moves
		lines     []int
		moves     []int
		holds     []string // of the memory, the first words of the lines
	}{
		{3, 1, 0, []int{0, 1, 2}, []int{1, 2, 3}, []string{"[1 0 0 0]", "[1 0 2 0]", "[1 1 2 3]"}},
		{3, 3, 0, []int{0, 1, 2, 0, 1}, []int{0, 0, 1, 1, 1}, []string{"[1 0 0 0]", "[1 2 0 0]", "[1 2 0 3]", "[4 2 0 3]", "[4 5 0 3]"}},
		// Behind slot 0 the gap is slot 3: what stands there is copied to slot 0.
		{3, 2, 3, []int{2, 2, 2, 1, 0}, []int{3, 4, 4, 5, 5}, []string{"[0 0 0 1]", "[2 0 0 1]", "[3 0 0 1]", "[3 0 0 4]", "[3 5 0 4]"}},
		{1, 1, 0, []int{0, 0, 0}, []int{1, 2, 3}, []string{"[0 1]", "[2 1]", "[2 3]"}},
		{2, 1, mostMoves, []int{0, 1}, []int{mostMoves + 1, mostMoves + 2}, []string{"[0 0 1]", "[1 2 1]"}},
	} {
		m := nvm.New(c.n+1, nil)
		set(t, m, api.RMoves, c.was)
		x := turn.New(m, c.n, 0, c.period)
		for k, line := range c.lines {
			err := x.Put(line, own(k))
			if got := firsts(t, m); err != api.OK || got != c.holds[k] || x.Moves() != c.moves[k] || kept(t, m) != uint64(c.moves[k]) {
				t.Errorf("row %d, put %d: %d, %s, %d moves", i, k, err, got, x.Moves())
			}
			if d, err := x.Get(line); d != own(k) || err != api.OK {
				t.Errorf("row %d, put %d: %v, %d", i, k, d, err)
			}
		}
		if want := 1 + len(c.lines) + 2*int(kept(t, m)-c.was); m.Writes() != want {
			t.Errorf("row %d: %d writes, not %d", i, m.Writes(), want)
		}
	}
}

// P9.2, P9.3: as many moves as Puts by the period, down; nothing else that is read changes, nor any register but RMoves.
func TestPeriods(t *testing.T) {
	for _, period := range []int{1, 2, 3, 7, 31, 999, 1000} {
		for _, n := range []int{1, 2, 5, 64 + 16, most - 1} {
			m := nvm.New(n+1, nil)
			for i := 1; i < api.Regs; i++ {
				set(t, m, i, uint64(7000+i))
			}
			was, x := m.Writes(), turn.New(m, n, 0, period)
			want := make([]api.Line, n)
			for k := range 3100 {
				line := k * 13 % n
				want[line] = own(k)
				if err := x.Put(line, own(k)); err != api.OK || x.Moves() != (k+1)/period || m.Writes() != was+k+1+2*x.Moves() {
					t.Fatalf("period %d, %d lines, put %d: %d, %d moves, %d writes", period, n, k, err, x.Moves(), m.Writes())
				}
				if (k+1)%period < 2 && !slices.Equal(holds(t, x), want) {
					t.Fatalf("period %d, %d lines, put %d: %v, not %v", period, n, k, holds(t, x), want)
				}
			}
			for i, v := range read(t, m).regs {
				if i != api.RMoves && v != uint64(7000+i) {
					t.Errorf("register %d: %d", i, v)
				}
			}
		}
	}
}

// P9.2: a Put counts that came this far, whatever came of it; one that was refused doesn't.
func TestWhatCounts(t *testing.T) {
	m := nvm.New(4, []int{1, -1, -1, -1})
	x := turn.New(m, 3, 0, 3)
	for k, c := range []struct {
		line  int
		want  api.Errno
		moves int
	}{
		{0, api.OK, 0}, {3, api.ErrArg, 0}, {-1, api.ErrArg, 0}, {0, api.ErrWorn, 0}, {math.MaxInt, api.ErrArg, 0}, {1, api.OK, 1},
		{0, api.ErrWorn, 1}, {0, api.ErrWorn, 1}, {0, api.ErrWorn, 2}, {2, api.OK, 2},
	} {
		if err := x.Put(c.line, own(k)); err != c.want || x.Moves() != c.moves {
			t.Errorf("put %d: %d, %d moves", k, err, x.Moves())
		}
	}
	// The second of the three is the one at which the power goes; without power none counts.
	m.Cut(0, 0)
	for k := range 5 {
		if err := x.Put(2, now); err != api.ErrDown || x.Moves() != 0 || x.Put(3, now) != api.ErrArg {
			t.Errorf("put %d without power: %d", k, err)
		}
	}
	m.Power()
	if err := x.Put(2, now); err != api.OK || x.Moves() != 3 {
		t.Errorf("the third: %d, %d moves", err, x.Moves())
	}
}

// P9.2: what is counted is since New: one that is made later begins anew, and takes nothing from the first.
func TestSinceNew(t *testing.T) {
	m := nvm.New(4, nil)
	x := turn.New(m, 3, 0, 3)
	x.Put(1, now)
	x.Put(1, now)
	y := turn.New(m, 3, 0, 3)
	for k, want := range []int{0, 0, 1, 1} {
		if err := y.Put(1, own(k)); err != api.OK || y.Moves() != want || x.Moves() != want {
			t.Errorf("anew, put %d: %d, %d moves", k, err, y.Moves())
		}
	}
	for k, want := range []int{2, 2, 2, 3} {
		if err := x.Put(1, own(k)); err != api.OK || x.Moves() != want {
			t.Errorf("the first, put %d: %d, %d moves", k, err, x.Moves())
		}
	}
}

// P9.2: an error of the move is told, and nothing else is done: the line isn't put, and the move's turn comes but a period later.
func TestMoveFails(t *testing.T) {
	for period := 1; period < 4; period++ {
		m := nvm.New(5, []int{-1, -1, -1, 0, 0})
		x := turn.New(m, 3, 1, period)
		for k := range 12 {
			before := holds(t, x)
			want, writes := api.OK, m.Writes()+1
			if (k+1)%period == 0 {
				want = api.ErrWorn
			} else {
				before[k%3] = own(k)
			}
			if k+1 == period {
				writes += 2 // the spare line fails, too, and is dead
			}
			if err := x.Put(k%3, own(k)); err != want || x.Moves() != 0 || m.Writes() != writes || !slices.Equal(holds(t, x), before) {
				t.Errorf("period %d, put %d: %d, %d moves, %d writes", period, k, err, x.Moves(), m.Writes())
			}
		}
		if x.Left() != 0 {
			t.Errorf("period %d: %d left", period, x.Left())
		}
	}
}

// P9.2: where the move is done and the line can't be put, that is told; the move stays.
func TestPutFails(t *testing.T) {
	m := nvm.New(4, []int{2, -1, 1, 2})
	x := turn.New(m, 3, 0, 4)
	if got := put(x, owns(3)); !slices.Equal(got, make([]api.Errno, 3)) {
		t.Fatal(got)
	}
	// Line 2 moves to slot 3, which takes one more write; line 0 is at slot 0, which takes one.
	for k, c := range []struct {
		line  int
		want  api.Errno
		moves int
	}{{0, api.OK, 1}, {0, api.ErrWorn, 1}, {2, api.OK, 1}, {2, api.ErrWorn, 1}, {0, api.ErrWorn, 1}} {
		if err := x.Put(c.line, own(100+k)); err != c.want || x.Moves() != c.moves {
			t.Errorf("put %d: %d, %d moves", k, err, x.Moves())
		}
	}
	if got := holds(t, x); !slices.Equal(got, []api.Line{own(100), own(1), own(102)}) {
		t.Error(got)
	}
	// And with a period of one: slot 3 takes the copy alone.
	m = nvm.New(4, []int{-1, -1, -1, 1})
	x = turn.New(m, 3, 0, 1)
	if err := x.Put(2, now); err != api.ErrWorn || x.Moves() != 1 {
		t.Errorf("%d, %d moves", err, x.Moves())
	}
	if d, err := x.Get(2); d != (api.Line{}) || err != api.OK {
		t.Errorf("%v, %d", d, err)
	}
}

// P9.2: slots that fail are replaced, the gap too, and the lines go round all the same.
func TestReplaced(t *testing.T) {
	m := nvm.New(7, []int{2, 2, 2, 2, 0, 1})
	x := turn.New(m, 3, 3, 1)
	want := make([]api.Line, 3)
	var left []int
	for k := range 12 {
		before := slices.Clone(want)
		want[k%3] = own(k)
		err := x.Put(k%3, own(k))
		if err == api.ErrWorn {
			want = before
		}
		if err != api.OK && (err != api.ErrWorn || x.Left() != 0) || !slices.Equal(holds(t, x), want) {
			t.Fatalf("put %d: %d, %v, not %v", k, err, holds(t, x), want)
		}
		left = append(left, x.Left())
	}
	if got := fmt.Sprint(left); got != "[3 3 3 3 0 0 0 0 0 0 0 0]" {
		t.Error(got)
	}
}

// P9.1, P9.2, R4: a line that isn't there comes first, then the power; neither writes.
func TestRefused(t *testing.T) {
	for period := 1; period < 4; period++ {
		m := nvm.New(6, []int{0, 1})
		x := turn.New(m, 3, 2, period)
		put(x, owns(3))
		was, moves := read(t, m), x.Moves()
		for _, line := range append(edges(), 3, 4, 5, 6) {
			if d, err := x.Get(line); d != (api.Line{}) || err != api.ErrArg || x.Put(line, now) != api.ErrArg {
				t.Errorf("line %d: %v, %d", line, d, err)
			}
		}
		if read(t, m) != was {
			t.Error("what isn't there was written")
		}
		m.Cut(0, 0)
		m.Set(1, 1)
		for line := range 3 {
			if d, err := x.Get(line); d != (api.Line{}) || err != api.ErrDown || x.Put(line, now) != api.ErrDown {
				t.Errorf("line %d: %v, %d", line, d, err)
			}
		}
		for _, line := range append(edges(), 3) {
			if d, err := x.Get(line); d != (api.Line{}) || err != api.ErrArg || x.Put(line, now) != api.ErrArg {
				t.Errorf("line %d without power: %v, %d", line, d, err)
			}
		}
		if x.Lines() != 3 || x.Moves() != 0 || x.Left() != 0 {
			t.Errorf("%d lines, %d moves, %d left", x.Lines(), x.Moves(), x.Left())
		}
		m.Power()
		was.writes++
		if read(t, m) != was || x.Moves() != moves || x.Left() != 1 {
			t.Error("something was done without power")
		}
	}
}

// P9.1, P9.2: the moves are the memory's: all that are made on one agree, and follow what is Set.
func TestMovesAreTheMemorys(t *testing.T) {
	m := nvm.New(5, nil)
	a, b := turn.New(m, 4, 0, 1), turn.New(m, 4, 0, 2)
	want := make([]api.Line, 4)
	moves := 0
	for k := range 60 {
		x := []*turn.Turn{a, b}[k%2]
		if k%2 == 0 || k/2%2 == 1 {
			moves++
		}
		want[k%4] = own(k)
		if err := x.Put(k%4, own(k)); err != api.OK {
			t.Errorf("put %d: %d", k, err)
		}
		for _, y := range []*turn.Turn{a, b, turn.New(m, 4, 0, 1000)} {
			if y.Moves() != moves || !slices.Equal(holds(t, y), want) {
				t.Errorf("put %d: %d moves, not %d, or the lines hold others", k, y.Moves(), moves)
			}
		}
	}
	set(t, m, api.RMoves, 2)
	if a.Moves() != 2 || b.Put(0, now) != api.OK || a.Put(0, now) != api.OK || b.Moves() != 3 || kept(t, m) != 3 {
		t.Errorf("%d moves", b.Moves())
	}
}

// R1, R3: also where RMoves became more than may be, each call ends, no number goes round, and a move changes nothing that is read.
func TestTooManyMoves(t *testing.T) {
	for _, v := range []uint64{mostMoves + 1, 1 << 62, math.MaxInt - 2, math.MaxInt - 1, math.MaxInt, 1 << 63, 1<<63 + 1, math.MaxUint64 - 1, math.MaxUint64} {
		m := nvm.New(4, nil)
		x := turn.New(m, 3, 0, 1)
		set(t, m, api.RMoves, v)
		want := make([]api.Line, 3)
		for k := range 9 {
			before := x.Moves()
			want[k%3] = own(k)
			err := x.Put(k%3, own(k))
			if !slices.Equal(holds(t, x), want) || err != api.OK || before < mostMoves || x.Moves() != before+1 && x.Moves() != math.MaxInt || kept(t, m) < uint64(x.Moves()) {
				t.Errorf("%d, put %d: %d, %d moves, then %d", v, k, err, before, x.Moves())
			}
		}
	}
}

// atCut tells four lines, all of which hold something, ahead of a Put with which the gap moves: it is at the slot that is told.
func atCut(t *testing.T, gap int, limits []int) (*nvm.Memory, *turn.Turn) {
	t.Helper()
	m := nvm.New(8, limits)
	set(t, m, api.RMoves, uint64(4-gap))
	x := turn.New(m, 4, 3, 5)
	if got := put(x, owns(4)); !slices.Equal(got, make([]api.Errno, 4)) {
		t.Fatal(got)
	}
	return m, x
}

// P9.3: whenever the power goes in a Put with a move, all other lines hold what they held, and the line itself that, or what was put, or a mix.
func TestCut(t *testing.T) {
	for gap := range 5 {
		for c := range 27 {
			limits := []int{-1, -1, -1, -1, -1, c%3 - 1, c / 3 % 3, c/9 - 1}
			limits[gap], limits[(gap+3)%5] = c%2, 1+c/2%2
			for line := range 4 {
				for n := range 13 {
					for _, mask := range []int{0, 1, 2, 170, 254, 255} {
						m, x := atCut(t, gap, limits)
						before := x.Moves()
						m.Cut(n, mask)
						err := x.Put(line, now)
						if m.Down() != (err == api.ErrDown) || err == api.ErrDown && (x.Left() != 0 || x.Moves() != 0 || turn.New(m, 4, 3, 1) != nil) {
							t.Fatalf("%d, %v, %d, %d, %d: %d", gap, limits, line, n, mask, err)
						}
						m.Power()
						afterCut(t, turn.New(m, 4, 3, 1), x, line, before, err)
					}
				}
			}
		}
	}
}

// afterCut checks what the lines hold, and that they go round anew as long as there is a spare one.
func afterCut(t *testing.T, x, was *turn.Turn, line, before int, err api.Errno) {
	t.Helper()
	got, want := holds(t, x), owns(4)
	if err == api.ErrDown && !torn.Could(own(line), now, got[line]) || err == api.OK && got[line] != now || err == api.ErrWorn && got[line] != own(line) {
		t.Fatalf("line %d: %d, %v", line, err, got[line])
	}
	want[line] = got[line]
	if !slices.Equal(got, want) || x.Moves() != before && x.Moves() != before+1 || err == api.OK && x.Moves() == before || was.Moves() != x.Moves() || was.Left() != x.Left() {
		t.Fatalf("line %d: %d, %v, %d moves", line, err, got, x.Moves())
	}
	for k := range 12 {
		err := x.Put(k%4, own(50+k))
		if err == api.OK {
			want[k%4] = own(50 + k)
		}
		if err != api.OK && (err != api.ErrWorn || x.Left() != 0) || !slices.Equal(holds(t, x), want) {
			t.Fatalf("line %d, then put %d: %d, %v", line, k, err, holds(t, x))
		}
	}
}

// P9.3: a register last: the copy is whole ahead of RMoves, and RMoves ahead of the line itself.
func TestRegisterLast(t *testing.T) {
	for gap := range 5 {
		for n := range 4 {
			for mask := range 256 {
				m, x := atCut(t, gap, nil)
				before := x.Moves()
				m.Cut(n, mask)
				err := x.Put(1, now)
				m.Power()
				moves, held, want := before, own(1), api.ErrDown
				if n > 1 || n == 1 && mask%2 == 1 {
					moves++
				}
				switch n {
				case 2:
					held = torn.Mix(own(1), now, mask)
				case 3:
					held, want = now, api.OK
				}
				if got := holds(t, x); err != want || x.Moves() != moves || !slices.Equal(got, []api.Line{own(0), held, own(2), own(3)}) {
					t.Fatalf("%d, %d, %d: %d, %d moves, %v", gap, n, mask, err, x.Moves(), got)
				}
			}
		}
	}
}

// P9.3 (T5): no line of the memory is a line's for longer than a round, though one alone is put.
func TestRound(t *testing.T) {
	for _, n := range []int{1, 2, 3, 9, 80} {
		for _, period := range []int{1, 2, 5} {
			m := nvm.New(n+1, nil)
			x := turn.New(m, n, 0, period)
			puts := (n + 1) * n * period
			for range puts {
				x.Put(0, now)
			}
			// Each line takes as many copies as there are rounds, and its share of the Puts: those of one round, and of the move on.
			for line := range n + 1 {
				if got := m.Wear(line); got < n+(n-1)*period || got > n+(n+1)*period {
					t.Errorf("%d lines, period %d: line %d was written %d times", n, period, line, got)
				}
			}
			if x.Moves() != (n+1)*n {
				t.Errorf("%d lines, period %d: %d moves", n, period, x.Moves())
			}
		}
	}
}

// R3: nil lines, and those that New didn't make, tell zero values, and ErrArg.
func TestNil(t *testing.T) {
	for _, x := range []*turn.Turn{nil, new(turn.Turn)} {
		for _, line := range append(edges(), 0, 1) {
			if d, err := x.Get(line); d != (api.Line{}) || err != api.ErrArg || x.Put(line, now) != api.ErrArg {
				t.Errorf("line %d: %v, %d", line, d, err)
			}
		}
		if x.Lines() != 0 || x.Moves() != 0 || x.Left() != 0 {
			t.Error(x.Lines(), x.Moves(), x.Left())
		}
	}
}
