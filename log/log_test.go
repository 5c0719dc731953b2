package log_test

import (
	"math"
	"slices"
	"testing"

	"darning/api"
	"darning/log"
	"darning/nvm"
	"darning/torn"
	"darning/turn"
)

// These are the document's numbers, written anew.
const (
	most      = 200
	logLines  = 16
	mostHomes = 14
	perIndex  = 8
)

// edges are numbers that no line behind a log has, whatever memory it is.
func edges() []int {
	return []int{math.MinInt, math.MinInt + 1, math.MinInt + 16, -1 << 32, -1<<32 + 17, -17, -16, -2, -1, 0, 1, 7, 14, 15, most, most + 1, 1 << 32, 1<<32 + 16, math.MaxInt - 1, math.MaxInt}
}

func own(i int) api.Line {
	var l api.Line
	for k := range l {
		l[k] = uint64(1000*k + i + 1)
	}
	return l
}

// homesAt tells homes on these lines, which hold own of from, and on.
func homesAt(from int, at ...int) []api.Home {
	var h []api.Home
	for i, line := range at {
		h = append(h, api.Home{Line: line, Data: own(from + i)})
	}
	return h
}

// first tells k homes: the first k lines behind the log.
func first(k, from int) []api.Home {
	var at []int
	for i := range k {
		at = append(at, logLines+i)
	}
	return homesAt(from, at...)
}

// over tells a log of n lines behind it, and what it is made on.
func over(t *testing.T, n, spares, period int, limits []int) (*nvm.Memory, *turn.Turn, *log.Log) {
	t.Helper()
	m := nvm.New(logLines+n+1+spares, limits)
	x := turn.New(m, logLines+n, spares, period)
	l := log.New(m, x)
	if l == nil {
		t.Fatalf("no log of %d lines, %d spare", n, spares)
	}
	return m, x, l
}

// forever are limits of so many lines, none of which wears out.
func forever(n int) []int {
	limits := make([]int, n)
	for i := range limits {
		limits[i] = -1
	}
	return limits
}

func set(t *testing.T, m *nvm.Memory, i int, v uint64) {
	t.Helper()
	if err := m.Set(i, v); err != api.OK {
		t.Fatalf("register %d: %d", i, err)
	}
}

func reg(t *testing.T, m *nvm.Memory, i int) uint64 {
	t.Helper()
	v, err := m.Reg(i)
	if err != api.OK {
		t.Fatalf("register %d: %d", i, err)
	}
	return v
}

func commit(t *testing.T, l *log.Log, h []api.Home) {
	t.Helper()
	if err := l.Commit(h); err != api.OK {
		t.Fatalf("%v: %d", h, err)
	}
}

// holds tells what the log's Get tells of all lines behind it.
func holds(t *testing.T, l *log.Log, x *turn.Turn) []api.Line {
	t.Helper()
	var all []api.Line
	for line := logLines; line < x.Lines(); line++ {
		d, err := l.Get(line)
		if err != api.OK {
			t.Fatalf("line %d: %d", line, err)
		}
		all = append(all, d)
	}
	return all
}

// bare tells what the lines themselves hold, from one on.
func bare(t *testing.T, x *turn.Turn, from int) []api.Line {
	t.Helper()
	var all []api.Line
	for line := from; line < x.Lines(); line++ {
		d, err := x.Get(line)
		if err != api.OK {
			t.Fatalf("line %d: %d", line, err)
		}
		all = append(all, d)
	}
	return all
}

// with tells lines from the log's end on, in which homes are done.
func with(all []api.Line, h []api.Home) []api.Line {
	all = slices.Clone(all)
	for _, x := range h {
		all[x.Line-logLines] = x.Data
	}
	return all
}

// image is all that a memory holds.
type image struct {
	lines  [most]api.Line
	wear   [most]int
	regs   [api.Regs]uint64
	writes int
}

// read tells all of a memory that has power.
func read(t *testing.T, m *nvm.Memory) image {
	t.Helper()
	x := image{writes: m.Writes()}
	for i := range m.Lines() {
		l, err := m.Get(i)
		if err != api.OK {
			t.Fatalf("line %d: %d", i, err)
		}
		x.lines[i], x.wear[i] = l, m.Wear(i)
	}
	for i := range api.Regs {
		x.regs[i] = reg(t, m, i)
	}
	return x
}

// P12.1: which homes can be written together, written out.
func TestMay(t *testing.T) {
	for i, c := range []struct {
		lines int
		h     []api.Home
		may   bool
	}{
		{17, homesAt(0, 16), true},
		{16, homesAt(0, 16), false},
		{15, homesAt(0, 14), false},
		{0, homesAt(0, 0), false},
		{17, homesAt(0, 15), false},
		{17, homesAt(0, 17), false},
		{80, homesAt(0, 79), true},
		{80, homesAt(0, 80), false},
		{80, nil, false},
		{80, []api.Home{}, false},
		{16, nil, false},
		{80, homesAt(0, 79, 16, 40), true},
		{80, homesAt(0, 16, 16), false},
		{80, homesAt(0, 16, 17, 16), false},
		{80, homesAt(0, 17, 16, 16), false},
		{80, homesAt(0, 16, 17, 15), false},
		{80, homesAt(0, 15, 16, 17), false},
		{80, []api.Home{{Line: 16}, {Line: 17}}, true},
		{30, first(14, 0), true},
		{29, first(14, 0), false},
		{31, first(15, 0), false},
		{80, first(15, 0), false},
		{80, first(64, 0), false},
		{80, append(first(13, 0), first(1, 5)...), false},
		{80, append(first(13, 0), homesAt(0, 28)...), false},
		{80, append(first(13, 0), homesAt(0, 79)...), true},
		{math.MaxInt, homesAt(0, math.MaxInt-1, 16), true},
		{math.MaxInt, homesAt(0, math.MaxInt), false},
		{math.MinInt, homesAt(0, 16), false},
		{math.MinInt, homesAt(0, math.MaxInt), false},
		{math.MinInt, nil, false},
		{-1, homesAt(0, 16), false},
	} {
		if got := log.May(c.lines, c.h); got != c.may {
			t.Errorf("row %d: %v", i, got)
		}
	}
}

// P12.1: each Line is behind the log, and there is such a one; at each place of homes.
func TestMayEachLine(t *testing.T) {
	for _, lines := range []int{-1, 0, 1, 15, 16, 17, 18, 30, 80} {
		for k := 1; k <= mostHomes; k++ {
			for place := range k {
				for _, line := range append(edges(), 16, 29, 30, 79, 80, lines-1, lines, lines+1) {
					h := first(k, 0)
					h[place].Line = line
					want := true
					for i, x := range h {
						want = want && x.Line >= logLines && x.Line <= lines-1 && (i == place || x.Line != line)
					}
					if got := log.May(lines, h); got != want {
						t.Fatalf("%d lines, %d homes, %d at place %d: %v", lines, k, line, place, got)
					}
				}
			}
		}
	}
}

// P12.1: a log is on a memory and on more lines than its own; New asks for no power, and writes nothing.
func TestNew(t *testing.T) {
	for n := 1; n <= 97; n++ {
		m := nvm.New(n+3, nil)
		x := turn.New(m, n, 2, 5)
		if got := log.New(m, x) != nil; got != (n > logLines) {
			t.Errorf("%d lines: %v", n, got)
		}
		if log.New(nil, x) != nil || log.New(m, nil) != nil || log.New(nil, nil) != nil || log.New(m, new(turn.Turn)) != nil {
			t.Errorf("%d lines: a log on no memory, or no lines", n)
		}
		if read(t, m) != (image{}) {
			t.Errorf("%d lines: New wrote", n)
		}
		m.Cut(0, 0)
		m.Set(0, 0)
		if got := log.New(m, x) != nil; got != (n > logLines) || got && log.New(m, x).Pending() {
			t.Errorf("%d lines without power: %v", n, got)
		}
	}
}

// P12.1: Get tells what the lines have, where nothing is Pending, and refuses the log's own and those that aren't.
func TestGet(t *testing.T) {
	m, x, l := over(t, 20, 3, 7, nil)
	for line := range x.Lines() {
		x.Put(line, own(line))
	}
	for i := range api.Regs {
		if i != api.RMoves && i != api.RCommit && (i < api.RTable || i >= api.RCount) {
			set(t, m, i, 1)
		}
	}
	was := read(t, m)
	for line := range x.Lines() {
		d, err := l.Get(line)
		if line < logLines && (d != (api.Line{}) || err != api.ErrArg) || line >= logLines && (d != own(line) || err != api.OK) {
			t.Errorf("line %d: %v, %d", line, d, err)
		}
	}
	for _, line := range append(edges(), 36, 37, 40) {
		if d, err := l.Get(line); d != (api.Line{}) || err != api.ErrArg {
			t.Errorf("line %d: %v, %d", line, d, err)
		}
	}
	if l.Pending() || l.Recover() != api.OK || read(t, m) != was {
		t.Error("what asks wrote, or something is Pending")
	}
}

// P12.2: what is refused, in order: homes that may not be, the power, what is Pending; nothing is written.
func TestRefused(t *testing.T) {
	m, x, l := over(t, 14, 1, 3, nil)
	commit(t, l, first(14, 100))
	bad := [][]api.Home{nil, {}, homesAt(0, 15), homesAt(0, 30), homesAt(0, 16, 16), first(15, 0), append(first(1, 0), homesAt(0, -1)...)}
	for _, line := range append(edges(), 30) {
		bad = append(bad, homesAt(0, 17, line), homesAt(0, line))
	}
	was := read(t, m)
	refuse := func(what string, good api.Errno) {
		t.Helper()
		for i, h := range bad {
			if err := l.Commit(h); err != api.ErrArg {
				t.Errorf("%s: row %d: %d", what, i, err)
			}
		}
		if good == api.OK {
			return
		}
		for k := 1; k <= mostHomes; k++ {
			if err := l.Commit(first(k, 0)); err != good {
				t.Errorf("%s: %d homes: %d", what, k, err)
			}
		}
	}
	refuse("ready", api.OK)
	if read(t, m) != was {
		t.Error("what may not be was written")
	}
	set(t, m, api.RCommit, 14)
	was = read(t, m)
	refuse("pending", api.ErrState)
	if read(t, m) != was || !l.Pending() {
		t.Error("something was written, though something is Pending")
	}
	m.Cut(0, 0)
	m.Set(api.RCommit, 0)
	refuse("down", api.ErrDown)
	if l.Recover() != api.ErrDown || l.Pending() || m.Writes() != was.writes+1 {
		t.Error("something without power")
	}
	for line := logLines; line < x.Lines(); line++ {
		if d, err := l.Get(line); d != (api.Line{}) || err != api.ErrDown {
			t.Errorf("line %d without power: %v, %d", line, d, err)
		}
	}
	for _, line := range append(edges(), 30) {
		if d, err := l.Get(line); d != (api.Line{}) || err != api.ErrArg {
			t.Errorf("line %d without power: %v, %d", line, d, err)
		}
	}
	m.Power()
	was.writes++
	if read(t, m) != was || !l.Pending() {
		t.Error("something was done without power")
	}
}

// P12.2: what a Commit leaves in the log's lines, in the homes and in the registers: the index with noughts behind, the data, and nothing else.
func TestCommitLays(t *testing.T) {
	for k := 1; k <= mostHomes; k++ {
		m, x, l := over(t, 20, 0, 1000, nil)
		for line := range x.Lines() {
			x.Put(line, own(7000+line))
		}
		was, before := bare(t, x, 0), read(t, m)
		h := first(k, 50)
		slices.Reverse(h)
		h[k-1].Line = 35
		commit(t, l, h)
		index := 1
		if k > perIndex {
			index = 2
		}
		for i := range index {
			was[i] = api.Line{}
		}
		for i, home := range h {
			was[i/8][i%8] = uint64(home.Line)
			was[index+i] = home.Data
			was[home.Line] = home.Data
		}
		if got := bare(t, x, 0); !slices.Equal(got, was) {
			t.Errorf("%d homes: %v, not %v", k, got, was)
		}
		after := read(t, m)
		if l.Pending() || after.regs != before.regs || after.writes != before.writes+index+2*k+2 || !slices.Equal(holds(t, l, x), was[logLines:]) {
			t.Errorf("%d homes: pending %v, %d writes, registers %v", k, l.Pending(), after.writes-before.writes, after.regs)
		}
		if l.Recover() != api.OK || read(t, m) != after {
			t.Errorf("%d homes: what is done was done again", k)
		}
	}
}

// steps are the writes of a Commit, or of its second half, that doesn't meet a move: what is put where, and at last the register.
type step struct {
	line int // register RCommit: -1
	d    api.Line
	v    uint64
}

func keeps(h []api.Home) []step {
	all := []step{{line: 0}}
	if len(h) > perIndex {
		all = append(all, step{line: 1})
	}
	index := len(all)
	for i, home := range h {
		all[i/perIndex].d[i%perIndex] = uint64(home.Line)
		all = append(all, step{line: index + i, d: home.Data})
	}
	return append(all, step{line: -1, v: uint64(len(h))})
}

func does(h []api.Home) []step {
	var all []step
	for _, home := range h {
		all = append(all, step{line: home.Line, d: home.Data})
	}
	return append(all, step{line: -1})
}

// stepped tells the lines and the register behind so many of these writes, and that of a mask.
func stepped(all []api.Line, v uint64, steps []step, n, mask int) ([]api.Line, uint64) {
	all = slices.Clone(all)
	for i, s := range steps {
		bits := mask
		if i < n {
			bits = 255
		}
		switch {
		case i > n:
		case s.line >= 0:
			all[s.line] = torn.Mix(all[s.line], s.d, bits)
		case bits&1 == 1:
			v = s.v
		}
	}
	return all, v
}

// P12.2 to P12.4: write by write, what the lines and the register hold where the power goes, in a Commit and in a Recover behind it.
func TestWriteByWrite(t *testing.T) {
	for _, k := range []int{1, 2, 7, 8, 9, 14} {
		h := first(k, 50)
		slices.Reverse(h)
		steps := append(keeps(h), does(h)...)
		for n := range len(steps) + 1 {
			for _, mask := range []int{0, 1, 2, 85, 170, 254, 255, 256, -1} {
				m, x, l := over(t, 15, 0, 1000, nil)
				for line := range x.Lines() {
					x.Put(line, own(7000+line))
				}
				was := bare(t, x, 0)
				m.Cut(n, mask)
				err := l.Commit(h)
				down := m.Down()
				m.Power()
				lines, v := stepped(was, 0, steps, n, mask)
				if down != (n < len(steps)) || down != (err == api.ErrDown) || !down && err != api.OK || reg(t, m, api.RCommit) != v || !slices.Equal(bare(t, x, 0), lines) {
					t.Fatalf("%d homes, cut %d, %d: %d, register %d, not %d, or other lines", k, n, mask, err, reg(t, m, api.RCommit), v)
				}
				if l.Pending() != (v != 0) || v == 0 && !slices.Equal(holds(t, l, x), lines[logLines:]) || v != 0 && !slices.Equal(holds(t, l, x), with(was[logLines:], h)) {
					t.Fatalf("%d homes, cut %d, %d: %v, other lines are told", k, n, mask, l.Pending())
				}
				if n%3 == 0 {
					recoverByWrite(t, m, x, l, h)
				}
			}
		}
	}
}

func recoverByWrite(t *testing.T, m *nvm.Memory, x *turn.Turn, l *log.Log, h []api.Home) {
	t.Helper()
	for n := range len(h) + 2 {
		for _, mask := range []int{0, 2, 254, 255} {
			was, v, told, before := bare(t, x, 0), reg(t, m, api.RCommit), holds(t, l, x), m.Writes()
			var steps []step
			if v != 0 {
				steps = does(h)
			}
			m.Cut(n, mask)
			err := l.Recover()
			down := m.Down()
			m.Power()
			lines, w := stepped(was, v, steps, n, mask)
			if down != (n < len(steps)) || down != (err == api.ErrDown) || !down && err != api.OK || m.Writes() != before+min(n+1, len(steps)) {
				t.Fatalf("%d homes, recovered, cut %d, %d: %d, %d writes", len(h), n, mask, err, m.Writes()-before)
			}
			if reg(t, m, api.RCommit) != w || !slices.Equal(bare(t, x, 0), lines) || !slices.Equal(holds(t, l, x), told) {
				t.Fatalf("%d homes, recovered, cut %d, %d: register %d, not %d, or other lines", len(h), n, mask, reg(t, m, api.RCommit), w)
			}
		}
	}
}

// P12.1, P12.3: what a register and an index from elsewhere say; what is committed is told by Get, and done by Recover, in the index's order.
func TestRaw(t *testing.T) {
	for i, c := range []struct {
		v     uint64
		index [2]api.Line
		at    []int // nil: no home
	}{
		{1, [2]api.Line{{16}}, []int{16}},
		{1, [2]api.Line{{30}}, []int{30}},
		{1, [2]api.Line{{31}}, nil},
		{1, [2]api.Line{{15}}, nil},
		{1, [2]api.Line{}, nil},
		{1, [2]api.Line{{16, 16, 0, 99}, {5}}, []int{16}},
		{2, [2]api.Line{{16, 16}}, nil},
		{2, [2]api.Line{{30, 16}}, []int{30, 16}},
		{2, [2]api.Line{{16, math.MaxUint64}}, nil},
		{2, [2]api.Line{{16, 1<<32 + 17}}, nil},
		{2, [2]api.Line{{16, 1<<63 + 17}}, nil},
		{2, [2]api.Line{{16, 1 << 63}}, nil},
		{2, [2]api.Line{{16, math.MaxInt}}, nil},
		{2, [2]api.Line{{17}}, nil},
		{8, [2]api.Line{{16, 17, 18, 19, 20, 21, 22, 23}, {1, 2, 3}}, []int{16, 17, 18, 19, 20, 21, 22, 23}},
		{9, [2]api.Line{{16, 17, 18, 19, 20, 21, 22, 23}, {30, 7}}, []int{16, 17, 18, 19, 20, 21, 22, 23, 30}},
		{9, [2]api.Line{{16, 17, 18, 19, 20, 21, 22, 23}, {16}}, nil},
		{14, [2]api.Line{{29, 28, 27, 26, 25, 24, 23, 22}, {21, 20, 19, 18, 17, 16}}, []int{29, 28, 27, 26, 25, 24, 23, 22, 21, 20, 19, 18, 17, 16}},
		{14, [2]api.Line{{29, 28, 27, 26, 25, 24, 23, 22}, {21, 20, 19, 18, 17, 3}}, nil},
		{15, [2]api.Line{{29, 28, 27, 26, 25, 24, 23, 22}, {21, 20, 19, 18, 17, 16, 30}}, nil},
		{16, [2]api.Line{{16}}, nil},
		{1<<32 + 1, [2]api.Line{{16}}, nil},
		{1<<63 + 1, [2]api.Line{{16}}, nil},
		{1 << 63, [2]api.Line{{16}}, nil},
		{math.MaxUint64, [2]api.Line{{16}}, nil},
	} {
		m, x, l := over(t, 15, 0, 1000, nil)
		for line := range x.Lines() {
			x.Put(line, own(7000+line))
		}
		x.Put(0, c.index[0])
		data := 1
		if c.v > perIndex {
			x.Put(1, c.index[1])
			data = 2
		}
		was := bare(t, x, 0)
		set(t, m, api.RCommit, c.v)
		want := slices.Clone(was[logLines:])
		for k, line := range c.at {
			want[line-logLines] = own(7000 + data + k)
		}
		before := read(t, m)
		if !l.Pending() || !slices.Equal(holds(t, l, x), want) || l.Commit(first(1, 0)) != api.ErrState || read(t, m) != before {
			t.Errorf("row %d: %v, not what is committed", i, l.Pending())
		}
		err := l.Recover()
		if c.at == nil && (err != api.ErrForm || read(t, m) != before || !l.Pending() || l.Recover() != api.ErrForm) {
			t.Errorf("row %d: %d", i, err)
		}
		if c.at != nil && (err != api.OK || l.Pending() || m.Writes() != before.writes+len(c.at)+1) {
			t.Errorf("row %d: %d, %d writes", i, err, m.Writes()-before.writes)
		}
		if !slices.Equal(holds(t, l, x), want) || c.at != nil && !slices.Equal(bare(t, x, logLines), want) {
			t.Errorf("row %d: other lines behind a Recover", i)
		}
	}
}

// P12.3: without power that comes first, whatever the register says.
func TestRawDown(t *testing.T) {
	for _, v := range []uint64{0, 1, 14, 15, math.MaxUint64} {
		m, _, l := over(t, 2, 0, 1, nil)
		set(t, m, api.RCommit, v)
		m.Cut(0, 0)
		m.Set(0, 0)
		if l.Pending() || l.Recover() != api.ErrDown || l.Commit(first(1, 0)) != api.ErrDown {
			t.Errorf("register %d without power: %v", v, l.Pending())
		}
		if d, err := l.Get(16); d != (api.Line{}) || err != api.ErrDown {
			t.Errorf("register %d without power: %v, %d", v, d, err)
		}
	}
}

// P12.2: where a line of the log can't be written that is told, and nothing has changed that Get tells; what was done ahead stays done.
func TestLogWorn(t *testing.T) {
	for k := 1; k <= mostHomes; k++ {
		h := first(k, 50)
		steps := keeps(h)
		for worn, s := range steps[:len(steps)-1] {
			limits := forever(logLines + 16)
			limits[s.line] = 0
			m, x, l := over(t, 15, 0, 1000, limits)
			for line := logLines; line < x.Lines(); line++ {
				x.Put(line, own(7000+line))
			}
			was, before := bare(t, x, 0), m.Writes()
			err := l.Commit(h)
			lines, _ := stepped(was, 0, steps, worn, 0)
			if err != api.ErrWorn || l.Pending() || m.Writes() != before+worn+1 || !slices.Equal(bare(t, x, 0), lines) || !slices.Equal(holds(t, l, x), was[logLines:]) {
				t.Fatalf("%d homes, line %d worn: %d, %v, %d writes", k, s.line, err, l.Pending(), m.Writes()-before)
			}
			if l.Recover() != api.OK || !slices.Equal(holds(t, l, x), was[logLines:]) || l.Commit(h) != api.ErrWorn {
				t.Fatalf("%d homes, line %d worn: it was recovered", k, s.line)
			}
		}
	}
}

// P12.2, P12.3: where a home can't be written all is committed, and stays Pending: those ahead of it are done, those behind it aren't, and all are told by Get.
func TestHomeWorn(t *testing.T) {
	for k := 1; k <= mostHomes; k++ {
		h := first(k, 50)
		slices.Reverse(h)
		for worn := range h {
			limits := forever(logLines + 16)
			limits[h[worn].Line] = 1
			m, x, l := over(t, 15, 0, 1000, limits)
			for line := range x.Lines() {
				x.Put(line, own(7000+line))
			}
			was, before := bare(t, x, 0), m.Writes()
			err := l.Commit(h)
			index := len(keeps(h)) - 1 - k
			lines, v := stepped(was, 0, append(keeps(h), does(h)...), index+k+1+worn, 0)
			told := with(was[logLines:], h)
			if err != api.OK || !l.Pending() || reg(t, m, api.RCommit) != v || m.Writes() != before+index+k+1+worn+1 || !slices.Equal(bare(t, x, 0), lines) || !slices.Equal(holds(t, l, x), told) {
				t.Fatalf("%d homes, home %d worn: %d, %v, %d writes", k, worn, err, l.Pending(), m.Writes()-before)
			}
			if l.Commit(first(1, 0)) != api.ErrState {
				t.Fatalf("%d homes, home %d worn: not Pending", k, worn)
			}
			for again := range 2 {
				before := m.Writes()
				// Another log on the same memory agrees.
				if again == 1 {
					l = log.New(m, turn.New(m, x.Lines(), 0, 1000))
				}
				if err := l.Recover(); err != api.OK || !l.Pending() || m.Writes() != before+worn+1 || !slices.Equal(holds(t, l, x), told) {
					t.Fatalf("%d homes, home %d worn, recovered: %d, %v, %d writes", k, worn, err, l.Pending(), m.Writes()-before)
				}
			}
			goesRound(t, m, x.Lines(), told)
		}
	}
}

// goesRound recovers again and again while the lines go round, till all is done, or the gap can't move on, as a slot that takes no write is the next one it leaves: all is told as before.
func goesRound(t *testing.T, m *nvm.Memory, lines int, told []api.Line) {
	t.Helper()
	x := turn.New(m, lines, 0, 1)
	l := log.New(m, x)
	for range 40 {
		if err := l.Recover(); err != api.OK || !slices.Equal(holds(t, l, x), told) {
			t.Fatalf("recovered later: %d, or other lines", err)
		}
	}
	if !l.Pending() && !slices.Equal(bare(t, x, logLines), told) {
		t.Fatal("done, but it isn't there")
	}
}

// P12.3: what stayed Pending is done later, where the worn slot has become the gap.
func TestDoneLater(t *testing.T) {
	limits := forever(20)
	limits[18] = 1
	m, x, l := over(t, 3, 0, 1000, limits)
	for line := logLines; line < x.Lines(); line++ {
		x.Put(line, own(line))
	}
	commit(t, l, first(3, 50))
	if !l.Pending() {
		t.Fatal("done, though a home is worn")
	}
	// The gap moves from slot 19 to slot 18 with the first write of the Recover: line 18 is at slot 19 from then on.
	y := turn.New(m, 19, 0, 1000)
	for range 999 {
		y.Put(15, own(0))
	}
	l = log.New(m, y)
	if err := l.Recover(); err != api.OK || l.Pending() || !slices.Equal(bare(t, y, logLines), with(make([]api.Line, 3), first(3, 50))) {
		t.Errorf("%d, %v, %v", err, l.Pending(), bare(t, y, logLines))
	}
	if err := l.Commit(first(3, 70)); err != api.OK || l.Pending() {
		t.Errorf("%d, %v", err, l.Pending())
	}
}

// P12.2: lines that fail are replaced, the log's and the homes', as long as there are spare ones.
func TestReplaced(t *testing.T) {
	for line := range logLines + 14 {
		limits := forever(logLines + 15)
		limits[line] = 1
		_, x, l := over(t, 14, 1, 1000, append(limits, 8))
		want := make([]api.Line, 14)
		for k := range 8 {
			h := first(14, 100*k)
			want = with(want, h)
			if err := l.Commit(h); err != api.OK || l.Pending() || x.Left() != max(0, 1-k) || !slices.Equal(holds(t, l, x), want) {
				t.Fatalf("line %d, commit %d: %d, %v, %d left", line, k, err, l.Pending(), x.Left())
			}
		}
	}
}

// world is a memory with what is made on it, as it is when the power comes.
type world struct {
	n, spares, period int
	m                 *nvm.Memory
	x                 *turn.Turn
	l                 *log.Log
}

func (w *world) start(t *testing.T) {
	t.Helper()
	w.m.Power()
	w.x = turn.New(w.m, logLines+w.n, w.spares, w.period)
	w.l = log.New(w.m, w.x)
	if w.l == nil {
		t.Fatal("no log, though the power came")
	}
}

// P12.4: whenever the power goes in a Commit, and in Recovers behind it, all homes hold what they held, or all what was committed; what was answered stays, and recovered again nothing changes.
func TestAllOrNothing(t *testing.T) {
	for c, limits := range [][]int{nil, {3, 4, 5, 6, 7, 8}, append(forever(29), 0, 1, 0, 1), slices.Repeat([]int{-1, 4, 9}, 10), slices.Repeat([]int{5}, 36)} {
		for _, period := range []int{1, 2, 5, 1000} {
			for _, k := range []int{1, 3, 8, 9, 14} {
				for at := range 100 {
					w := &world{n: 14, spares: 4, period: period, m: nvm.New(logLines+14+1+4, limits)}
					w.start(t)
					old := first(14, 100)
					if w.l.Commit(old) != api.OK {
						t.Fatalf("row %d: no first Commit", c)
					}
					if !cutOnce(t, w, first(k, 500), at, []int{0, 1, 2, 254}[(at+k)%4]) {
						break
					}
				}
			}
		}
	}
}

// cutOnce lets the power go at one write of a Commit, and of Recovers. No: the Commit has fewer.
func cutOnce(t *testing.T, w *world, h []api.Home, at, mask int) bool {
	t.Helper()
	was := holds(t, w.l, w.x)
	shall := with(was, h)
	w.m.Cut(at, mask)
	err := w.l.Commit(h)
	went := w.m.Down()
	if went != (err == api.ErrDown) || went && (w.l.Pending() || w.l.Recover() != api.ErrDown || w.l.Commit(h) != api.ErrDown) {
		t.Fatalf("cut %d, %d: %d", at, mask, err)
	}
	w.start(t)
	got := holds(t, w.l, w.x)
	if !slices.Equal(got, was) && !slices.Equal(got, shall) || err == api.OK && !slices.Equal(got, shall) || err == api.ErrWorn && !slices.Equal(got, was) {
		t.Fatalf("cut %d, %d: %d, and neither is held whole", at, mask, err)
	}
	for n := range 40 {
		w.m.Cut(n, 255-mask)
		err := w.l.Recover()
		went := w.m.Down()
		w.start(t)
		if went != (err == api.ErrDown) || !went && err != api.OK || !slices.Equal(holds(t, w.l, w.x), got) {
			t.Fatalf("cut %d, %d, then %d: %d, or other lines", at, mask, n, err)
		}
	}
	if err := w.l.Recover(); err != api.OK || !w.l.Pending() && !slices.Equal(bare(t, w.x, logLines), got) || w.l.Pending() && w.x.Left() != 0 {
		t.Fatalf("cut %d, %d: %d, %v", at, mask, err, w.l.Pending())
	}
	return went
}

// R2: homes that are handed in stay as they are, what is behind them isn't read, and they aren't kept.
func TestHomesStay(t *testing.T) {
	_, x, l := over(t, 14, 0, 3, nil)
	for k := 1; k <= 13; k++ {
		all := first(14, 100*k)
		all[k].Line = -5
		was := slices.Clone(all)
		if !log.May(30, all[:k]) || l.Commit(all[:k]) != api.OK || !slices.Equal(all, was) {
			t.Errorf("%d homes: refused, or changed", k)
		}
		clear(all)
		if got := holds(t, l, x); got[k-1] != own(100*k+k-1) || got[k] != (api.Line{}) {
			t.Errorf("%d homes: %v", k, got)
		}
	}
	// Kept ones neither, where they stay Pending.
	limits := forever(18)
	limits[16] = 0
	_, x, l = over(t, 1, 0, 1000, limits)
	h := first(1, 5)
	commit(t, l, h)
	h[0] = api.Home{}
	if d, err := l.Get(16); !l.Pending() || d != own(5) || err != api.OK {
		t.Errorf("%v, %d", d, err)
	}
	l.Recover()
	if d, err := l.Get(16); !l.Pending() || d != own(5) || err != api.OK || x.Lines() != 17 {
		t.Errorf("%v, %d", d, err)
	}
}

// R6: all that are made on one memory agree, at once.
func TestTwoLogs(t *testing.T) {
	limits := forever(33)
	limits[29] = 4
	m, x, a := over(t, 16, 0, 1000, limits)
	b := log.New(m, x)
	want := make([]api.Line, 16)
	for k := range 8 {
		h := first(14, 100*k)
		l := []*log.Log{a, b}[k%2]
		err := l.Commit(h)
		if err == api.OK {
			want = with(want, h)
		}
		if shall := k > 3; a.Pending() != shall || b.Pending() != shall || (err == api.ErrState) != (k > 4) || !slices.Equal(holds(t, a, x), want) || !slices.Equal(holds(t, b, x), want) {
			t.Fatalf("commit %d: %d, %v, %v", k, err, a.Pending(), b.Pending())
		}
	}
}

// P12.1: the register is of the memory that is handed in, the lines are those that are, even if they are another memory's.
func TestTwoMemories(t *testing.T) {
	m, n := nvm.New(1, nil), nvm.New(logLines+3, nil)
	x := turn.New(n, logLines+2, 0, 1000)
	l := log.New(m, x)
	commit(t, l, first(2, 5))
	if m.Writes() != 2 || n.Writes() != 5 || !slices.Equal(holds(t, l, x), with(make([]api.Line, 2), first(2, 5))) {
		t.Errorf("%d and %d writes", m.Writes(), n.Writes())
	}
	set(t, n, api.RCommit, 3)
	if l.Pending() || l.Commit(first(1, 0)) != api.OK {
		t.Error("the other memory's register")
	}
	n.Cut(0, 0)
	n.Set(0, 0)
	if l.Commit(first(1, 9)) != api.ErrDown || l.Pending() || l.Recover() != api.OK {
		t.Error("no power in the lines")
	}
	if d, err := l.Get(16); d != (api.Line{}) || err != api.ErrDown {
		t.Errorf("%v, %d", d, err)
	}
	for v := range uint64(3) {
		set(t, m, api.RCommit, v)
		want := api.ErrDown
		if v == 0 {
			want = api.OK
		}
		if err := l.Recover(); err != want || l.Pending() != (v > 0) {
			t.Errorf("register %d: %d, %v", v, err, l.Pending())
		}
		if d, err := l.Get(17); d != (api.Line{}) || err != api.ErrDown {
			t.Errorf("register %d: %v, %d", v, d, err)
		}
	}
}

// R3: nil logs, and those that New didn't make, tell zero values, and ErrArg.
func TestNil(t *testing.T) {
	for _, l := range []*log.Log{nil, new(log.Log)} {
		for _, line := range append(edges(), 16, 17) {
			if d, err := l.Get(line); d != (api.Line{}) || err != api.ErrArg {
				t.Errorf("line %d: %v, %d", line, d, err)
			}
		}
		for _, h := range [][]api.Home{nil, first(1, 0), first(14, 0), first(15, 0)} {
			if err := l.Commit(h); err != api.ErrArg {
				t.Errorf("%d homes: %d", len(h), err)
			}
		}
		if l.Pending() || l.Recover() != api.ErrArg {
			t.Error("pending, or recovered")
		}
	}
}
