package lines_test

import (
	"testing"

	"darning/api"
	"darning/lines"
	"darning/nvm"
)

// script is numbers that are the same in each run.
type script uint64

func (s *script) below(n int) int {
	*s = *s*6364136223846793005 + 1442695040888963407
	return int(uint64(*s) >> 33 % uint64(n))
}

// other is lines that are made otherwise: on no memory, and each slot knows where it stands. What it tells must be told, write for write.
type other struct {
	slots  int
	limits []int
	lines  []api.Line
	wear   []int
	words  []uint64
	at     []int // where each slot stands
	writes int
	goes   int // the write at which the power goes; -1: never
	mask   int
	down   bool
}

func newOther(slots, spares int, limits []int) *other {
	o := &other{slots: slots, limits: limits, lines: make([]api.Line, slots+spares), wear: make([]int, slots+spares), words: make([]uint64, spares), goes: -1}
	for slot := range slots {
		o.at = append(o.at, slot)
	}
	return o
}

func (o *other) writeLine(line int, d api.Line) api.Errno {
	goes := o.writes == o.goes
	o.writes++
	worn := o.wear[line] == o.limits[line]
	if !worn {
		o.wear[line]++
	}
	for i, p := range []int{1, 2, 4, 8, 16, 32, 64, 128} {
		if !worn && (!goes || o.mask/p%2 == 1) {
			o.lines[line][i] = d[i]
		}
	}
	o.down = goes
	return told(goes, worn)
}

func told(down, worn bool) api.Errno {
	if down {
		return api.ErrDown
	}
	if worn {
		return api.ErrWorn
	}
	return api.OK
}

// writeWord gives a spare line away: to the slot, or, if that is the one behind them all, to none.
func (o *other) writeWord(place, slot int) api.Errno {
	goes := o.writes == o.goes
	o.writes++
	if !goes || o.mask%2 == 1 {
		o.words[place] = uint64(slot + 1)
		if slot < o.slots {
			o.at[slot] = o.slots + place
		}
	}
	o.down = goes
	return told(goes, false)
}

func (o *other) put(slot int, d api.Line) api.Errno {
	if slot < 0 || slot >= o.slots {
		return api.ErrArg
	}
	if o.down {
		return api.ErrDown
	}
	err := o.writeLine(o.at[slot], d)
	for place, w := range o.words {
		if err != api.ErrWorn || w != 0 {
			continue
		}
		err = o.writeLine(o.slots+place, d)
		switch {
		case err == api.OK:
			err = o.writeWord(place, slot)
		case err == api.ErrWorn && o.writeWord(place, o.slots) == api.ErrDown:
			err = api.ErrDown
		}
	}
	return err
}

func (o *other) get(slot int) (api.Line, api.Errno) {
	if slot < 0 || slot >= o.slots {
		return api.Line{}, api.ErrArg
	}
	if o.down {
		return api.Line{}, api.ErrDown
	}
	return o.lines[o.at[slot]], api.OK
}

func (o *other) left() int {
	n := 0
	for _, w := range o.words {
		if w == 0 && !o.down {
			n++
		}
	}
	return n
}

// P7.1 to P7.3: long runs tell what lines tell that are made otherwise, and leave the same in the memory.
func TestRuns(t *testing.T) {
	var times [4]int
	for seed := range 400 {
		s := script(seed)
		s.below(2)
		slots, spares := 1+s.below(5), s.below(api.MaxSpare+1)
		limits := make([]int, slots+spares)
		for i := range limits {
			limits[i] = s.below(9) - 1
		}
		m, o := nvm.New(slots+spares, limits), newOther(slots, spares, limits)
		l := lines.New(m, slots, spares)
		for step := range 150 {
			slot, d := s.below(slots+2)-1, own(s.below(1000))
			switch s.below(10) {
			case 0:
				n, mask := s.below(12)-1, s.below(256)
				m.Cut(n, mask)
				o.goes, o.mask = -1, mask
				if n >= 0 {
					o.goes = o.writes + n
				}
			case 1, 2:
				m.Power()
				o.down, o.goes = false, -1
				l = lines.New(m, slots, spares)
			default:
				got, want := l.Put(slot, d), o.put(slot, d)
				if got != want {
					t.Fatalf("seed %d, step %d: %d, not %d", seed, step, got, want)
				}
				times[got]++
			}
			same(t, m, l, o)
		}
	}
	for err, n := range times {
		if n < 1000 {
			t.Errorf("%d was told %d times alone", err, n)
		}
	}
}

func same(t *testing.T, m *nvm.Memory, l *lines.Lines, o *other) {
	t.Helper()
	if l.Slots() != o.slots || l.Left() != o.left() || m.Writes() != o.writes || m.Down() != o.down {
		t.Fatalf("%d slots, %d left, %d writes, down %v, not %d, %d, %d, %v", l.Slots(), l.Left(), m.Writes(), m.Down(), o.slots, o.left(), o.writes, o.down)
	}
	for slot := -1; slot <= o.slots; slot++ {
		d, err := l.Get(slot)
		if want, e := o.get(slot); d != want || err != e {
			t.Fatalf("slot %d: %v, %d, not %v, %d", slot, d, err, want, e)
		}
	}
	for line, want := range o.lines {
		if d, _ := m.Get(line); !o.down && d != want || m.Wear(line) != o.wear[line] {
			t.Fatalf("line %d: %v, wear %d, not %v, %d", line, d, m.Wear(line), want, o.wear[line])
		}
	}
	for i := range api.Regs {
		want := uint64(0)
		if i >= api.RTable && i < api.RTable+len(o.words) {
			want = o.words[i-api.RTable]
		}
		if v, _ := m.Reg(i); !o.down && v != want {
			t.Fatalf("register %d: %d, not %d", i, v, want)
		}
	}
}
