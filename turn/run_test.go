package turn_test

import (
	"slices"
	"testing"

	"darning/api"
	"darning/lines"
	"darning/nvm"
	"darning/turn"
)

// script is numbers that are the same in each run.
type script uint64

func (s *script) below(n int) int {
	*s = *s*6364136223846793005 + 1442695040888963407
	return int(uint64(*s) >> 33 % uint64(n))
}

// nobody stands at the gap.
const nobody = -1

// other is lines that go round otherwise: no number tells where they stand, but the slots themselves tell who does, and change move by move. What it tells must be told, write for write.
type other struct {
	m      *nvm.Memory
	slots  *lines.Lines
	spares int
	period int
	at     []int // who stands at each slot
	moves  uint64
	puts   int
}

func newOther(n, spares, period int, limits []int) *other {
	o := &other{m: nvm.New(n+1+spares, limits), spares: spares, period: period}
	for line := range n {
		o.at = append(o.at, line)
	}
	o.at = append(o.at, nobody)
	o.start()
	return o
}

// start is what is done when the power comes: the register tells whether the last move is done.
func (o *other) start() {
	o.m.Power()
	o.slots = lines.New(o.m, len(o.at), o.spares)
	o.puts = 0
	if v, _ := o.m.Reg(api.RMoves); v > o.moves {
		o.moved()
	}
}

// moved lets who stands ahead of the gap stand there.
func (o *other) moved() {
	to := slices.Index(o.at, nobody)
	from := (to + len(o.at) - 1) % len(o.at)
	o.at[to], o.at[from] = o.at[from], nobody
	o.moves++
}

func (o *other) move() api.Errno {
	to := slices.Index(o.at, nobody)
	d, _ := o.slots.Get((to + len(o.at) - 1) % len(o.at))
	if err := o.slots.Put(to, d); err != api.OK {
		return err
	}
	if err := o.m.Set(api.RMoves, o.moves+1); err != api.OK {
		return err
	}
	o.moved()
	return api.OK
}

func (o *other) put(line int, d api.Line) api.Errno {
	if line < 0 || line > len(o.at)-2 {
		return api.ErrArg
	}
	if o.m.Down() {
		return api.ErrDown
	}
	o.puts++
	if o.puts%o.period == 0 {
		if err := o.move(); err != api.OK {
			return err
		}
	}
	return o.slots.Put(slices.Index(o.at, line), d)
}

// P9.1 to P9.3: long runs tell what lines tell that go round otherwise, and leave the same in the memory.
func TestRuns(t *testing.T) {
	var times [4]int
	for seed := range 600 {
		s := script(seed)
		s.below(2)
		n, spares, period := 1+s.below(5), s.below(api.MaxSpare+1), 1+s.below(4)
		limits := make([]int, n+1+spares)
		for i := range limits {
			limits[i] = s.below(24) - 1
		}
		m, o := nvm.New(n+1+spares, limits), newOther(n, spares, period, limits)
		x := turn.New(m, n, spares, period)
		for step := range 150 {
			line, d := s.below(n+2)-1, own(s.below(1000))
			switch s.below(12) {
			case 0:
				goes, mask := s.below(14)-1, s.below(256)
				m.Cut(goes, mask)
				o.m.Cut(goes, mask)
			case 1, 2:
				m.Power()
				o.start()
				x = turn.New(m, n, spares, period)
			default:
				got, want := x.Put(line, d), o.put(line, d)
				if got != want {
					t.Fatalf("seed %d, step %d: %d, not %d", seed, step, got, want)
				}
				times[got]++
			}
			same(t, m, x, o)
		}
	}
	for err, n := range times {
		if n < 1000 {
			t.Errorf("%d was told %d times alone", err, n)
		}
	}
}

func same(t *testing.T, m *nvm.Memory, x *turn.Turn, o *other) {
	t.Helper()
	if x.Lines() != len(o.at)-1 || x.Left() != o.slots.Left() || m.Writes() != o.m.Writes() || m.Down() != o.m.Down() {
		t.Fatalf("%d lines, %d left, %d writes, down %v, not %d, %d, %d, %v", x.Lines(), x.Left(), m.Writes(), m.Down(), len(o.at)-1, o.slots.Left(), o.m.Writes(), o.m.Down())
	}
	if o.m.Down() {
		if x.Moves() != 0 {
			t.Fatalf("%d moves without power", x.Moves())
		}
		return
	}
	if x.Moves() != int(o.moves) || read(t, m) != read(t, o.m) {
		t.Fatalf("%d moves, not %d, or the memories hold others", x.Moves(), o.moves)
	}
	for slot, line := range o.at {
		want, _ := o.slots.Get(slot)
		if d, err := x.Get(line); line != nobody && (d != want || err != api.OK) {
			t.Fatalf("line %d: %v, %d, not %v", line, d, err, want)
		}
	}
}
