package nvm_test

import (
	"testing"

	"darning/api"
	"darning/nvm"
)

// script is numbers that are the same in each run.
type script uint64

func (s *script) below(n int) int {
	*s = *s*6364136223846793005 + 1442695040888963407
	return int(uint64(*s) >> 33 % uint64(n))
}

// other is a memory that is made otherwise: its words one by one, the power by the number of the write at which it goes.
type other struct {
	limits []int
	words  map[[2]int]uint64
	regs   map[int]uint64
	wear   map[int]int
	writes int
	goes   int // -1: never
	mask   int
	down   bool
}

func newOther(limits []int) *other {
	return &other{limits: limits, words: map[[2]int]uint64{}, regs: map[int]uint64{}, wear: map[int]int{}, goes: -1}
}

func (o *other) refuse(there bool) api.Errno {
	if !there {
		return api.ErrArg
	}
	if o.down {
		return api.ErrDown
	}
	return api.OK
}

func (o *other) put(line int, l api.Line) api.Errno {
	if err := o.refuse(line >= 0 && line < len(o.limits)); err != api.OK {
		return err
	}
	now := o.writes
	o.writes++
	worn := o.wear[line] == o.limits[line]
	if !worn {
		o.wear[line]++
	}
	for i, p := range []int{1, 2, 4, 8, 16, 32, 64, 128} {
		if !worn && (now != o.goes || o.mask/p%2 == 1) {
			o.words[[2]int{line, i}] = l[i]
		}
	}
	if now == o.goes {
		o.down = true
		return api.ErrDown
	}
	if worn {
		return api.ErrWorn
	}
	return api.OK
}

func (o *other) set(i int, v uint64) api.Errno {
	if err := o.refuse(i >= 0 && i < 35); err != api.OK {
		return err
	}
	now := o.writes
	o.writes++
	if now != o.goes || o.mask%2 == 1 {
		o.regs[i] = v
	}
	if now == o.goes {
		o.down = true
		return api.ErrDown
	}
	return api.OK
}

func (o *other) cut(n, mask int) {
	o.goes, o.mask = -1, mask
	if n >= 0 {
		o.goes = o.writes + n
	}
}

func (o *other) power() {
	o.down, o.goes = false, -1
}

func (o *other) get(line int) (api.Line, api.Errno) {
	var l api.Line
	err := o.refuse(line >= 0 && line < len(o.limits))
	for i := range l {
		if err == api.OK {
			l[i] = o.words[[2]int{line, i}]
		}
	}
	return l, err
}

func (o *other) reg(i int) (uint64, api.Errno) {
	if err := o.refuse(i >= 0 && i < 35); err != api.OK {
		return 0, err
	}
	return o.regs[i], api.OK
}

// P5.1 to P5.4: long runs tell what a memory tells that is made otherwise.
func TestRuns(t *testing.T) {
	var told [7]int
	for seed := range 300 {
		s := script(seed)
		s.below(2)
		limits := make([]int, 1+s.below(6))
		for i := range limits {
			limits[i] = s.below(12) - 1
		}
		m, o := nvm.New(len(limits), limits), newOther(limits)
		for step := range 200 {
			at, n, mask := s.below(len(limits)+2)-1, s.below(30)-3, s.below(256)
			l := own(s.below(1000))
			var got, want api.Errno
			switch s.below(8) {
			case 0, 1, 2, 3:
				got, want = m.Put(at, l), o.put(at, l)
			case 4, 5:
				i := s.below(37) - 1
				got, want = m.Set(i, l[0]), o.set(i, l[0])
			case 6:
				m.Cut(n, mask)
				o.cut(n, mask)
			case 7:
				m.Power()
				o.power()
			}
			told[got]++
			if got != want || m.Writes() != o.writes || m.Down() != o.down {
				t.Fatalf("seed %d, step %d: %d, not %d; %d writes, not %d; down %v", seed, step, got, want, m.Writes(), o.writes, m.Down())
			}
			same(t, m, o)
		}
	}
	for _, e := range []api.Errno{api.OK, api.ErrArg, api.ErrDown, api.ErrWorn} {
		if told[e] < 1000 {
			t.Errorf("%d was told %d times alone", e, told[e])
		}
	}
}

func same(t *testing.T, m *nvm.Memory, o *other) {
	t.Helper()
	for i := -1; i <= len(o.limits); i++ {
		l, err := m.Get(i)
		if want, e := o.get(i); l != want || err != e || m.Wear(i) != o.wear[i] {
			t.Fatalf("line %d: %v, %d, wear %d, not %v, %d, %d", i, l, err, m.Wear(i), want, e, o.wear[i])
		}
	}
	for i := -1; i <= 35; i++ {
		v, err := m.Reg(i)
		if want, e := o.reg(i); v != want || err != e {
			t.Fatalf("register %d: %d, %d, not %d, %d", i, v, err, want, e)
		}
	}
}
