package log_test

import (
	"slices"
	"testing"

	"darning/api"
	"darning/log"
	"darning/nvm"
	"darning/turn"
)

// script is numbers that are the same in each run.
type script uint64

func (s *script) below(n int) int {
	*s = *s*6364136223846793005 + 1442695040888963407
	return int(uint64(*s) >> 33 % uint64(n))
}

// other is a log made otherwise: it keeps by itself what is committed, and not done, and reads nothing of it from the memory but, at a start, whether the register is 0. Each write is one of a list. What it tells must be told, write for write.
type other struct {
	m      *nvm.Memory
	x      *turn.Turn
	n      int
	spares int
	order  []int // of the homes that are Pending
	data   map[int]api.Line
}

func (o *other) start(period int) {
	o.m.Power()
	o.x = turn.New(o.m, logLines+o.n, o.spares, period)
	if v, _ := o.m.Reg(api.RCommit); v == 0 {
		o.order = nil
	}
}

// write does a list of writes, and tells how many, and why no more.
func (o *other) write(list []step) (int, api.Errno) {
	for i, s := range list {
		err := api.OK
		if s.line < 0 {
			err = o.m.Set(api.RCommit, s.v)
		} else {
			err = o.x.Put(s.line, s.d)
		}
		if err != api.OK {
			return i, err
		}
	}
	return len(list), api.OK
}

func (o *other) commit(h []api.Home) api.Errno {
	seen := map[int]int{}
	for _, x := range h {
		seen[x.Line]++
		if x.Line < logLines || x.Line >= logLines+o.n {
			return api.ErrArg
		}
	}
	switch {
	case len(h) == 0 || len(h) > mostHomes || len(seen) < len(h):
		return api.ErrArg
	case o.m.Down():
		return api.ErrDown
	case o.order != nil:
		return api.ErrState
	}
	list := keeps(h)
	done, err := o.write(list)
	// The last one may be done, though the power went at it: the next start asks.
	if done >= len(list)-1 {
		for _, x := range h {
			o.order = append(o.order, x.Line)
			o.data[x.Line] = x.Data
		}
	}
	if err != api.OK {
		return err
	}
	return o.do()
}

func (o *other) do() api.Errno {
	var h []api.Home
	for _, line := range o.order {
		h = append(h, api.Home{Line: line, Data: o.data[line]})
	}
	_, err := o.write(does(h))
	switch err {
	case api.OK:
		o.order = nil
	case api.ErrWorn:
		return api.OK
	}
	return err
}

func (o *other) recover() api.Errno {
	if o.m.Down() {
		return api.ErrDown
	}
	if o.order == nil {
		return api.OK
	}
	return o.do()
}

func (o *other) get(line int) (api.Line, api.Errno) {
	if line < logLines || line >= logLines+o.n {
		return api.Line{}, api.ErrArg
	}
	if o.m.Down() {
		return api.Line{}, api.ErrDown
	}
	if slices.Contains(o.order, line) {
		return o.data[line], api.OK
	}
	return o.x.Get(line)
}

// anyHomes are homes that can be written together, most times.
func (s *script) anyHomes(n, from int) []api.Home {
	var h []api.Home
	at := s.below(n)
	for i := range s.below(min(n, mostHomes)) + 1 {
		h = append(h, api.Home{Line: logLines + (at+i*7)%n, Data: own(from + i)})
	}
	switch s.below(12) {
	case 0:
		return nil
	case 1:
		h[s.below(len(h))].Line = s.below(n+20) - 1
	case 2:
		h = append(h, h[s.below(len(h))])
	}
	return h
}

// P12.1 to P12.4: long runs tell what a log tells that is made otherwise, and leave the same in the memory.
func TestRuns(t *testing.T) {
	told := map[api.Errno]int{}
	var stayed, done int
	for seed := range 400 {
		s := script(seed)
		s.below(2)
		n, spares := []int{1, 2, 3, 5, 9, 15, 20}[s.below(7)], s.below(api.MaxSpare+1)
		limits := make([]int, logLines+n+1+spares)
		for i := range limits {
			limits[i] = s.below(40) - 1
		}
		period := 1 + s.below(6)
		m, o := nvm.New(len(limits), limits), &other{m: nvm.New(len(limits), limits), n: n, spares: spares, data: map[int]api.Line{}}
		o.start(period)
		l := log.New(m, turn.New(m, logLines+n, spares, period))
		for step := range 60 {
			var got, want api.Errno
			switch s.below(10) {
			case 0, 1:
				goes, mask := s.below(50)-1, s.below(256)
				m.Cut(goes, mask)
				o.m.Cut(goes, mask)
			case 2, 3:
				m.Power()
				period = 1 + s.below(6)
				o.start(period)
				l = log.New(m, turn.New(m, logLines+n, spares, period))
			case 4, 5:
				was := o.order != nil
				got, want = l.Recover(), o.recover()
				if was && got == api.OK && o.order == nil {
					done++
				}
			default:
				h := s.anyHomes(n, s.below(1000))
				got, want = l.Commit(h), o.commit(h)
				told[got]++
				if got == api.OK && o.order != nil {
					stayed++
				}
			}
			if got != want {
				t.Fatalf("seed %d, step %d: %d, not %d", seed, step, got, want)
			}
			same(t, m, l, o)
		}
	}
	for _, err := range []api.Errno{api.OK, api.ErrArg, api.ErrDown, api.ErrWorn, api.ErrState} {
		if told[err] < 200 {
			t.Errorf("%d was told %d times alone", err, told[err])
		}
	}
	if stayed < 20 || done < 100 {
		t.Errorf("%d stayed Pending, %d were recovered", stayed, done)
	}
}

func same(t *testing.T, m *nvm.Memory, l *log.Log, o *other) {
	t.Helper()
	if m.Down() != o.m.Down() || m.Writes() != o.m.Writes() || l.Pending() != (o.order != nil && !m.Down()) {
		t.Fatalf("down %v, %d writes, pending %v, not %v, %d", m.Down(), m.Writes(), l.Pending(), o.m.Down(), o.m.Writes())
	}
	for line := -1; line <= logLines+o.n; line++ {
		got, err := l.Get(line)
		want, wanted := o.get(line)
		if got != want || err != wanted {
			t.Fatalf("line %d: %v, %d, not %v, %d", line, got, err, want, wanted)
		}
	}
	if !m.Down() && read(t, m) != read(t, o.m) {
		t.Fatal("the memories hold others")
	}
}
