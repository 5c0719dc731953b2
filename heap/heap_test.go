package heap_test

import (
	"bytes"
	"math"
	"slices"
	"testing"

	"darning/api"
	"darning/chain"
	"darning/cost"
	"darning/heap"
	"darning/nvm"
	"darning/plan"
	"darning/turn"
)

// These are the document's numbers, written anew.
const (
	most      = 200
	logLines  = 16
	mostLines = 64
	mostSpare = 16
	mostBytes = 448
	mostCount = 1 << 40
	lineWords = 8
)

func alloc(n int) api.Op              { return api.Op{Kind: api.OAlloc, N: n} }
func free(off int) api.Op             { return api.Op{Kind: api.OFree, Off: off} }
func read(off, n int) api.Op          { return api.Op{Kind: api.ORead, Off: off, N: n} }
func write(off int, b ...byte) api.Op { return api.Op{Kind: api.OWrite, Off: off, Data: b} }
func root(off int) api.Op             { return api.Op{Kind: api.ORoot, Off: off} }

var get = api.Op{Kind: api.OGet}

// otherKinds are those that no heap does.
func otherKinds() []int {
	return []int{math.MinInt, -1<<32 + 1, -1, 0, api.OCut, api.OStart, 9, 1<<32 + 1, 1<<32 + 3, math.MaxInt}
}

// odd are bytes that come of a short rule; from says which.
func odd(n, from int) []byte {
	b := make([]byte, n)
	for i := range b {
		b[i] = byte(7*i + from + 1)
	}
	return b
}

// own is a line of words that are no headers.
func own(i int) api.Line {
	var l api.Line
	for k := range l {
		l[k] = uint64(5000*k + i + 5000)
	}
	return l
}

// forever are limits of so many lines, none of which wears out.
func forever(n int) []int {
	limits := make([]int, n)
	for i := range limits {
		limits[i] = -1
	}
	return limits
}

// lasting are limits of a plan's lines: these lines (and how often they last), all others for ever.
func lasting(p api.Plan, lasts map[int]int) []int {
	limits := forever(plan.Device(p))
	for line, n := range lasts {
		limits[line] = n
	}
	return limits
}

// made is a new heap on a new memory.
func made(t *testing.T, p api.Plan, limits ...int) (*heap.Heap, *nvm.Memory) {
	t.Helper()
	m := nvm.New(plan.Device(p), limits)
	if err := heap.Format(m, p); err != api.OK {
		t.Fatalf("%v: Format: %d", p, err)
	}
	return opened(t, m, p), m
}

func opened(t *testing.T, m *nvm.Memory, p api.Plan) *heap.Heap {
	t.Helper()
	h, err := heap.Open(m, p)
	if h == nil || err != api.OK {
		t.Fatalf("%v: Open: %d", p, err)
	}
	return h
}

func set(t *testing.T, m *nvm.Memory, i int, v uint64) {
	t.Helper()
	if err := m.Set(i, v); err != api.OK {
		t.Fatalf("register %d: %d", i, err)
	}
}

func reg(t *testing.T, m *nvm.Memory, i int) uint64 {
	t.Helper()
	v, err := m.Reg(i)
	if err != api.OK {
		t.Fatalf("register %d: %d", i, err)
	}
	return v
}

// cut lets the power go at once.
func cut(m *nvm.Memory) {
	m.Cut(0, 0)
	m.Set(api.RRoot, 0)
}

func same(a, b api.Ans) bool {
	return a.Err == b.Err && a.Off == b.Off && bytes.Equal(a.Data, b.Data)
}

// told asks for an answer.
func told(t *testing.T, h *heap.Heap, op api.Op, want api.Ans) {
	t.Helper()
	if got := h.Do(op); !same(got, want) {
		t.Fatalf("%v: %v, not %v", op, got, want)
	}
}

// done asks for an answer without an error.
func done(t *testing.T, h *heap.Heap, op api.Op) api.Ans {
	t.Helper()
	a := h.Do(op)
	if a.Err != api.OK {
		t.Fatalf("%v: %d", op, a.Err)
	}
	return a
}

// refused asks for an error, and nothing beside it.
func refused(t *testing.T, h *heap.Heap, op api.Op, err api.Errno) {
	t.Helper()
	told(t, h, op, api.Ans{Err: err})
}

func words(t *testing.T, h *heap.Heap) []uint64 {
	t.Helper()
	w, err := h.Words()
	if err != api.OK {
		t.Fatalf("words: %d", err)
	}
	return w
}

func blocks(t *testing.T, h *heap.Heap) []api.Block {
	t.Helper()
	l, ok := chain.Blocks(words(t, h))
	if !ok {
		t.Fatalf("no blocks: %v", words(t, h))
	}
	return l
}

// image is all that a memory holds.
type image struct {
	lines  [most]api.Line
	wear   [most]int
	regs   [api.Regs]uint64
	writes int
}

// all tells all of a memory that has power.
func all(t *testing.T, m *nvm.Memory) image {
	t.Helper()
	x := image{writes: m.Writes()}
	for i := range m.Lines() {
		l, err := m.Get(i)
		if err != api.OK {
			t.Fatalf("line %d: %d", i, err)
		}
		x.lines[i], x.wear[i] = l, m.Wear(i)
	}
	for i := range api.Regs {
		x.regs[i] = reg(t, m, i)
	}
	return x
}

// badPlans are plans that may not be: each field by itself is beyond its edges.
func badPlans() []api.Plan {
	good := api.Plan{Lines: 2, Spare: 1, Period: 3, Batch: 4}
	bad := []api.Plan{{}, {Lines: -1, Spare: -1, Period: -1, Batch: -1}}
	for _, n := range []int{math.MinInt, -1, 0, 65, 1<<32 + 2, math.MaxInt} {
		q := good
		q.Lines = n
		bad = append(bad, q)
	}
	for _, n := range []int{math.MinInt, -1, 17, 1<<32 + 1, math.MaxInt} {
		q := good
		q.Spare = n
		bad = append(bad, q)
	}
	for _, n := range []int{math.MinInt, -1, 0, 1001, 1<<32 + 3, math.MaxInt} {
		q := good
		q.Period = n
		bad = append(bad, q)
	}
	for _, n := range []int{math.MinInt, -1, 0, 101, 1<<32 + 4, math.MaxInt} {
		q := good
		q.Batch = n
		bad = append(bad, q)
	}
	return bad
}

// P21.1: a new memory of any plan becomes a heap of one free block; its other lines are noughts.
func TestFormat(t *testing.T) {
	for n := 1; n <= mostLines; n++ {
		for _, p := range []api.Plan{{Lines: n, Period: 1000, Batch: 1}, {Lines: n, Spare: n % (mostSpare + 1), Period: 1, Batch: 100}} {
			m := nvm.New(plan.Device(p), nil)
			if err := heap.Format(m, p); err != api.OK || m.Writes() > cost.Format(p) {
				t.Fatalf("%v: %d, %d writes", p, err, m.Writes())
			}
			h, want := opened(t, m, p), make([]uint64, n*lineWords)
			want[0] = uint64(n * lineWords * 2)
			if w := words(t, h); !slices.Equal(w, want) {
				t.Fatalf("%v: %v", p, w)
			}
			x := turn.New(m, logLines+n, p.Spare, p.Period)
			for line := range logLines {
				if d, err := x.Get(line); d != (api.Line{}) || err != api.OK {
					t.Fatalf("%v: line %d of the log: %v, %d", p, line, d, err)
				}
			}
			for i := range api.Regs {
				if i != api.RMoves && reg(t, m, i) != 0 {
					t.Fatalf("%v: register %d: %d", p, i, reg(t, m, i))
				}
			}
			told(t, h, get, api.Ans{})
			if h.Worn() || h.Left() != p.Spare || h.Moves() != int(reg(t, m, api.RMoves)) {
				t.Fatalf("%v: worn %v, %d left, %d moves", p, h.Worn(), h.Left(), h.Moves())
			}
		}
	}
}

// P21.1, R4: what Format refuses, in order; nothing is written.
func TestFormatRefuses(t *testing.T) {
	p := api.Plan{Lines: 2, Spare: 1, Period: 3, Batch: 4}
	m := nvm.New(20, nil)
	var bad []api.Plan
	for _, q := range append(badPlans(), api.Plan{Lines: 3, Spare: 1, Period: 3, Batch: 4}, api.Plan{Lines: 2, Spare: 2, Period: 3, Batch: 4}, api.Plan{Lines: 1, Spare: 1, Period: 3, Batch: 4}) {
		bad = append(bad, q)
		if err := heap.Format(m, q); err != api.ErrArg {
			t.Errorf("%v: %d", q, err)
		}
		if err := heap.Format(nil, q); err != api.ErrArg {
			t.Errorf("no memory, %v: %d", q, err)
		}
	}
	if heap.Format(nil, p) != api.ErrArg || heap.Format(new(nvm.Memory), p) != api.ErrArg {
		t.Error("a heap on no memory")
	}
	if all(t, m) != (image{}) {
		t.Error("something was written")
	}
	for i := range api.Regs {
		for _, v := range []uint64{1, 1 << 32, 1 << 63, math.MaxUint64} {
			set(t, m, i, v)
			was := all(t, m)
			if err := heap.Format(m, p); err != api.ErrState || all(t, m) != was {
				t.Errorf("register %d: %d", i, err)
			}
			for _, q := range bad {
				if err := heap.Format(m, q); err != api.ErrArg {
					t.Errorf("register %d, %v: %d", i, q, err)
				}
			}
			set(t, m, i, 0)
		}
	}
	set(t, m, api.RRoot, 8)
	m.Cut(0, 0)
	m.Put(0, api.Line{})
	writes := m.Writes()
	if err := heap.Format(m, p); err != api.ErrDown || m.Writes() != writes {
		t.Errorf("no power: %d", err)
	}
	for _, q := range bad {
		if err := heap.Format(m, q); err != api.ErrArg {
			t.Errorf("no power, %v: %d", q, err)
		}
	}
}

// P21.1: where all registers are 0 whatever the lines hold becomes chain.First.
func TestFormatOldLines(t *testing.T) {
	for _, n := range []int{1, 2, 9, mostLines} {
		p := api.Plan{Lines: n, Spare: 3, Period: 1000, Batch: 5}
		m := nvm.New(plan.Device(p), nil)
		for line := range m.Lines() {
			m.Put(line, own(line))
		}
		was := m.Writes()
		if err := heap.Format(m, p); err != api.OK || m.Writes()-was > cost.Format(p) {
			t.Fatalf("%d lines: %d, %d writes", n, err, m.Writes()-was)
		}
		if w := words(t, opened(t, m, p)); !slices.Equal(w, chain.First(n*lineWords)) {
			t.Errorf("%d lines: %v", n, w)
		}
	}
	p := api.Plan{Lines: 4, Period: 1000, Batch: 100}
	h, m := made(t, p)
	done(t, h, alloc(100))
	done(t, h, write(8, odd(100, 3)...))
	if err := heap.Format(m, p); err != api.OK {
		t.Fatalf("a heap in use, registers all 0: %d", err)
	}
	if w := words(t, opened(t, m, p)); !slices.Equal(w, chain.First(32)) {
		t.Error(w)
	}
}

// P21.1: a line that can't be written is replaced, as long as there is a spare one.
func TestFormatWorn(t *testing.T) {
	for spares := range mostSpare + 1 {
		for dead := range spares + 1 {
			p := api.Plan{Lines: 3, Spare: spares, Period: 1000, Batch: 1}
			lasts := map[int]int{logLines: 0}
			for i := range dead {
				lasts[logLines+3+1+i] = 0
			}
			m, want := nvm.New(plan.Device(p), lasting(p, lasts)), api.OK
			if dead == spares {
				want = api.ErrWorn
			}
			if err := heap.Format(m, p); err != want {
				t.Fatalf("%d spare, %d of them dead: %d", spares, dead, err)
			}
			if want != api.OK {
				continue
			}
			if h := opened(t, m, p); h.Left() != spares-dead-1 || !slices.Equal(words(t, h), chain.First(24)) {
				t.Fatalf("%d spare, %d of them dead: %d left, %v", spares, dead, h.Left(), words(t, h))
			}
		}
	}
}

// P21.1: the power goes in a Format: ErrDown; where no register was written it can be done again.
func TestFormatCut(t *testing.T) {
	for _, p := range []api.Plan{{Lines: 2, Period: 1, Batch: 1}, {Lines: 5, Spare: 2, Period: 9, Batch: 1}} {
		again := 0
		for at := range 20 {
			for mask := range 256 {
				m := nvm.New(plan.Device(p), lasting(p, map[int]int{logLines: at % 2}))
				m.Cut(at, mask)
				err := heap.Format(m, p)
				if m.Down() != (err == api.ErrDown) {
					t.Fatalf("%v, cut at %d: %d", p, at, err)
				}
				if !m.Down() {
					continue
				}
				m.Power()
				if all(t, m).regs != ([api.Regs]uint64{}) {
					if err := heap.Format(m, p); err != api.ErrState {
						t.Fatalf("%v, cut at %d, again: %d", p, at, err)
					}
					continue
				}
				again++
				if err := heap.Format(m, p); err != api.OK && err != api.ErrWorn {
					t.Fatalf("%v, cut at %d, again: %d", p, at, err)
				} else if err == api.OK && !slices.Equal(words(t, opened(t, m, p)), chain.First(8*p.Lines)) {
					t.Fatalf("%v, cut at %d, mask %d: %v", p, at, mask, words(t, opened(t, m, p)))
				}
			}
		}
		if again < 256 {
			t.Errorf("%v: done again %d times alone", p, again)
		}
	}
}

// notOpened asks for an error, no heap, and that nothing is written.
func notOpened(t *testing.T, m *nvm.Memory, p api.Plan, want api.Errno) {
	t.Helper()
	was := m.Writes()
	if h, err := heap.Open(m, p); h != nil || err != want || m.Writes() != was {
		t.Errorf("%v: %v, %d, %d writes", p, h != nil, err, m.Writes()-was)
	}
}

// P21.1, R4: what Open refuses, in order.
func TestOpenRefuses(t *testing.T) {
	p := api.Plan{Lines: 2, Spare: 1, Period: 3, Batch: 4}
	bad := append(badPlans(), api.Plan{Lines: 3, Spare: 1, Period: 3, Batch: 4}, api.Plan{Lines: 2, Spare: 2, Period: 3, Batch: 4}, api.Plan{Lines: 1, Spare: 1, Period: 3, Batch: 4})
	m := nvm.New(20, nil)
	notOpened(t, m, p, api.ErrForm)
	notOpened(t, nil, p, api.ErrArg)
	notOpened(t, new(nvm.Memory), p, api.ErrArg)
	_, m = made(t, p)
	for _, x := range []struct {
		reg int
		v   uint64
	}{
		{api.RTable, 21}, {api.RTable, 1 << 32}, {api.RTable, 1 << 63}, {api.RTable, math.MaxUint64},
		{api.RMoves, 1<<40 + 1}, {api.RMoves, 1 << 63}, {api.RMoves, math.MaxUint64},
		{api.RCommit, 1}, {api.RCommit, 14}, {api.RCommit, 15}, {api.RCommit, 1 << 32}, {api.RCommit, math.MaxUint64},
		{api.RRoot, 8}, {api.RRoot, 1}, {api.RRoot, 1 << 32}, {api.RRoot, 1 << 63}, {api.RRoot, math.MaxUint64},
	} {
		was := reg(t, m, x.reg)
		set(t, m, x.reg, x.v)
		notOpened(t, m, p, api.ErrForm)
		for _, q := range bad {
			notOpened(t, m, q, api.ErrArg)
			notOpened(t, nil, q, api.ErrArg)
		}
		cut(m)
		notOpened(t, m, p, api.ErrDown)
		for _, q := range bad {
			notOpened(t, m, q, api.ErrArg)
		}
		m.Power()
		set(t, m, x.reg, was)
		opened(t, m, p)
	}
}

// P21.1: words that are no chain are refused, whichever header it is; and what is no header is not asked.
func TestOpenWords(t *testing.T) {
	p := api.Plan{Lines: 2, Period: 1000, Batch: 1}
	h, m := made(t, p)
	done(t, h, alloc(20))
	done(t, h, alloc(30))
	first, _ := m.Get(logLines)
	for word := range lineWords {
		for _, v := range []uint64{0, 1, 2, 3, 4, 9, 1 << 40, math.MaxUint64} {
			d := first
			d[word] = v
			m.Put(logLines, d)
			x, err := heap.Open(m, p)
			second, _ := m.Get(logLines + 1)
			_, ok := chain.Blocks(slices.Concat(d[:], second[:]))
			if ok != (err == api.OK) || ok != (x != nil) || !ok && err != api.ErrForm {
				t.Errorf("word %d is %d: %d", word, v, err)
			}
			if header := word == 0 || word == 4; !header && !ok {
				t.Errorf("word %d has a say", word)
			}
		}
	}
}

// P21.1: the root is 0, or a used block's.
func TestOpenRoot(t *testing.T) {
	p := api.Plan{Lines: 4, Period: 1000, Batch: 1}
	h, m := made(t, p)
	done(t, h, alloc(20))
	done(t, h, alloc(30))
	done(t, h, alloc(8))
	done(t, h, free(40))
	asked := []uint64{1 << 31, 1<<32 + 8, 1 << 63, 1<<63 + 8, math.MaxUint64, math.MaxUint64 - 7, math.MaxInt}
	for off := range uint64(300) {
		asked = append(asked, off)
	}
	for _, off := range asked {
		set(t, m, api.RRoot, off)
		x, err := heap.Open(m, p)
		if want := off == 0 || off == 8 || off == 80; want != (err == api.OK) || want != (x != nil) || !want && err != api.ErrForm {
			t.Errorf("root %d: %d", off, err)
		}
		if err == api.OK {
			told(t, x, get, api.Ans{Off: int(off)})
		}
	}
}

// P21.1: the Counts are registers, as many as there are pages, each brought to 0 to 2^40.
func TestOpenCounts(t *testing.T) {
	for n := 1; n <= mostLines; n++ {
		p := api.Plan{Lines: n, Period: 1000, Batch: 7}
		_, m := made(t, p)
		kept := []uint64{0, 1, mostCount - 1, mostCount, mostCount + 1, 1 << 50, math.MaxInt, 1 << 63, math.MaxUint64, 5, 6, 7, 8, 9, 10, 11}
		var want []int
		for page, v := range kept {
			set(t, m, api.RCount+page, v)
			if page*4 < n {
				want = append(want, int(min(v, mostCount)))
			}
		}
		if got := opened(t, m, p).Counts(); !slices.Equal(got, want) {
			t.Fatalf("%d lines: %v, not %v", n, got, want)
		}
	}
}

// P21.1, T2: what is committed is done by an Open; where the power goes in it, that is told.
func TestOpenRecovers(t *testing.T) {
	p := api.Plan{Lines: 3, Spare: 1, Period: 1000, Batch: 3}
	pending := func() (*nvm.Memory, []uint64) {
		h, m := made(t, p)
		done(t, h, alloc(150))
		was := words(t, h)
		for i, c := range odd(150, 2) {
			was[1+i/8] |= uint64(c) << (8 * (i % 8))
		}
		m.Cut(4, 1)
		refused(t, h, write(8, odd(150, 2)...), api.ErrDown)
		m.Power()
		if reg(t, m, api.RCommit) != 3 {
			t.Fatalf("RCommit %d", reg(t, m, api.RCommit))
		}
		return m, was
	}
	m, want := pending()
	h := opened(t, m, p)
	if reg(t, m, api.RCommit) != 0 || h.Worn() || !slices.Equal(words(t, h), want) {
		t.Errorf("%d, worn %v, %v, not %v", reg(t, m, api.RCommit), h.Worn(), words(t, h), want)
	}
	for at := range 4 {
		m, want := pending()
		m.Cut(at, 0b1010)
		if h, err := heap.Open(m, p); h != nil || err != api.ErrDown {
			t.Errorf("cut at %d: %d", at, err)
		}
		m.Power()
		if h := opened(t, m, p); !slices.Equal(words(t, h), want) {
			t.Errorf("cut at %d: %v", at, words(t, h))
		}
	}
	m, _ = pending()
	set(t, m, api.RCommit, 15)
	notOpened(t, m, p, api.ErrForm)
}

// P21.2: answers, one by one.
func TestByHand(t *testing.T) {
	h, _ := made(t, api.Plan{Lines: 8, Spare: 1, Period: 3, Batch: 2})
	off := func(n int) api.Ans { return api.Ans{Off: n} }
	err := func(e api.Errno) api.Ans { return api.Ans{Err: e} }
	for i, x := range []struct {
		op   api.Op
		want api.Ans
	}{
		{get, off(0)},
		{alloc(8), off(8)},
		{alloc(17), off(24)},
		{alloc(9), off(56)},
		{alloc(448), err(api.ErrSpace)},
		{alloc(433), err(api.ErrSpace)},
		{alloc(432), off(80)},
		{alloc(1), err(api.ErrSpace)},
		{alloc(0), err(api.ErrArg)},
		{alloc(449), err(api.ErrArg)},
		{alloc(-1), err(api.ErrArg)},
		{read(80, 432), api.Ans{Data: make([]byte, 432)}},
		{write(56, 1, 2, 3), api.Ans{}},
		{free(56), api.Ans{}},
		{alloc(17), err(api.ErrSpace)},
		{alloc(1), off(56)},
		{read(56, 16), api.Ans{Data: make([]byte, 16)}},
		{read(56, 17), err(api.ErrArg)},
		{write(24, 1, 2, 3), api.Ans{}},
		{write(27, 4, 5, 6, 7, 8, 9), api.Ans{}},
		{read(24, 12), api.Ans{Data: []byte{1, 2, 3, 4, 5, 6, 7, 8, 9, 0, 0, 0}}},
		{read(32, 1), api.Ans{Data: []byte{9}}},
		{read(24, 24), api.Ans{Data: append([]byte{1, 2, 3, 4, 5, 6, 7, 8, 9}, make([]byte, 15)...)}},
		{read(24, 25), err(api.ErrArg)},
		{read(23, 1), err(api.ErrArg)},
		{read(24, 0), api.Ans{}},
		{read(24, -1), err(api.ErrArg)},
		{write(47, 1), api.Ans{}},
		{write(48, 1), err(api.ErrArg)},
		{write(47, 1, 2), err(api.ErrArg)},
		{write(24), api.Ans{}},
		{write(23), err(api.ErrArg)},
		{write(80, make([]byte, 433)...), err(api.ErrArg)},
		{root(24), api.Ans{}},
		{get, off(24)},
		{root(25), err(api.ErrArg)},
		{root(-8), err(api.ErrArg)},
		{get, off(24)},
		{free(24), err(api.ErrState)},
		{free(23), err(api.ErrArg)},
		{free(0), err(api.ErrArg)},
		{root(80), api.Ans{}},
		{free(24), api.Ans{}},
		{free(24), err(api.ErrArg)},
		{root(24), err(api.ErrArg)},
		{read(24, 1), err(api.ErrArg)},
		{alloc(20), off(24)},
		{read(24, 24), api.Ans{Data: make([]byte, 24)}},
		{root(0), api.Ans{}},
		{get, off(0)},
		{free(80), api.Ans{}},
		{free(0), err(api.ErrArg)},
	} {
		if got := h.Do(x.op); !same(got, x.want) {
			t.Errorf("row %d: %v: %v, not %v", i, x.op, got, x.want)
		}
	}
	want := []api.Block{{At: 0, Size: 2, Used: true}, {At: 2, Size: 4, Used: true}, {At: 6, Size: 3, Used: true}, {At: 9, Size: 55}}
	if got := blocks(t, h); !slices.Equal(got, want) {
		t.Error(got)
	}
}

// P21.2: the edges of one call's bytes, in the greatest heap.
func TestMostBytes(t *testing.T) {
	h, _ := made(t, api.Plan{Lines: 64, Spare: 16, Period: 1, Batch: 1})
	told(t, h, alloc(448), api.Ans{Off: 8})
	told(t, h, alloc(448), api.Ans{Off: 464})
	b := odd(449, 9)
	told(t, h, write(464, b[:448]...), api.Ans{})
	refused(t, h, write(464, b...), api.ErrArg)
	told(t, h, read(464, 448), api.Ans{Data: b[:448]})
	told(t, h, read(8, 448), api.Ans{Data: make([]byte, 448)})
	refused(t, h, read(464, 449), api.ErrArg)
	for _, n := range []int{math.MinInt, -1 << 32, 1<<32 + 8, math.MaxInt - 464, math.MaxInt - 463, math.MaxInt} {
		refused(t, h, alloc(n), api.ErrArg)
		refused(t, h, read(464, n), api.ErrArg)
		refused(t, h, read(n, 8), api.ErrArg)
		refused(t, h, write(n, 1), api.ErrArg)
		refused(t, h, write(n), api.ErrArg)
		refused(t, h, free(n), api.ErrArg)
		refused(t, h, root(n), api.ErrArg)
	}
}

// P21.2: the fields that a kind doesn't name have no say.
func TestOtherFieldsNoSay(t *testing.T) {
	h, m := made(t, api.Plan{Lines: 4, Period: 7, Batch: 3})
	told(t, h, api.Op{Kind: api.OAlloc, N: 30, Off: -5, Mask: 3, Data: odd(500, 0)}, api.Ans{Off: 8})
	told(t, h, api.Op{Kind: api.OWrite, Off: 8, N: -5, Mask: 3, Data: []byte{1, 2}}, api.Ans{})
	told(t, h, api.Op{Kind: api.ORead, Off: 8, N: 3, Mask: 3, Data: odd(500, 0)}, api.Ans{Data: []byte{1, 2, 0}})
	told(t, h, api.Op{Kind: api.ORoot, Off: 8, N: -5, Mask: 3, Data: odd(500, 0)}, api.Ans{})
	told(t, h, api.Op{Kind: api.OGet, Off: -5, N: -5, Mask: 3, Data: odd(500, 0)}, api.Ans{Off: 8})
	told(t, h, root(0), api.Ans{})
	told(t, h, api.Op{Kind: api.OFree, Off: 8, N: -5, Mask: 3, Data: odd(500, 0)}, api.Ans{})
	was := all(t, m)
	for _, kind := range otherKinds() {
		told(t, h, api.Op{Kind: kind, Off: 8, N: 8, Mask: 255, Data: []byte{1}}, api.Ans{Err: api.ErrArg})
	}
	if all(t, m) != was || m.Down() {
		t.Error("something was written")
	}
}

// P21.2, P21.3: without power nothing is told but that, whatever else is wrong; another kind is still none.
func TestDown(t *testing.T) {
	h, m := made(t, api.Plan{Lines: 2, Spare: 3, Period: 1, Batch: 1})
	done(t, h, alloc(8))
	done(t, h, root(8))
	counts := h.Counts()
	if h.Moves() == 0 || h.Left() != 3 || counts[0] == 0 {
		t.Error(h.Moves(), h.Left(), counts)
	}
	moves, was := h.Moves(), all(t, m)
	cut(m)
	for _, op := range []api.Op{alloc(8), alloc(0), alloc(448), free(8), free(9), read(8, 1), read(8, -1), read(9, 8), write(8, 1), write(8), write(9, odd(9, 1)...), root(8), root(0), root(9), get} {
		refused(t, h, op, api.ErrDown)
	}
	for _, kind := range otherKinds() {
		refused(t, h, api.Op{Kind: kind}, api.ErrArg)
	}
	if w, err := h.Words(); w != nil || err != api.ErrDown {
		t.Error(w, err)
	}
	if h.Moves() != 0 || h.Left() != 0 || h.Worn() || !slices.Equal(h.Counts(), counts) {
		t.Error(h.Moves(), h.Left(), h.Worn(), h.Counts())
	}
	m.Power()
	was.writes++
	if all(t, m) != was || h.Moves() != moves || h.Left() != 3 {
		t.Error("something was written")
	}
}

// wornOut tells two heaps that are Worn: of one a commit was refused, of the other one is Pending. In both there is a used block of 8 bytes that begins with a 5, at 8, the root, one of 16, at 24, and a free one of 10 words.
func wornOut(t *testing.T) map[string]func() (*heap.Heap, *nvm.Memory) {
	t.Helper()
	p := api.Plan{Lines: 2, Period: 1000, Batch: 1}
	begin := func(lasts map[int]int) (*heap.Heap, *nvm.Memory) {
		h, m := made(t, p, lasting(p, lasts)...)
		done(t, h, alloc(8))
		done(t, h, alloc(16))
		done(t, h, write(8, 5))
		done(t, h, root(8))
		return h, m
	}
	return map[string]func() (*heap.Heap, *nvm.Memory){
		"refused": func() (*heap.Heap, *nvm.Memory) {
			h, m := begin(map[int]int{1: 3})
			refused(t, h, write(8, 6), api.ErrWorn)
			return h, m
		},
		"pending": func() (*heap.Heap, *nvm.Memory) {
			h, m := begin(map[int]int{logLines: 4})
			done(t, h, write(24, 7))
			return h, m
		},
	}
}

// P21.2, T1: what a Worn heap tells, in order; what is read is right.
func TestWorn(t *testing.T) {
	for what, begin := range wornOut(t) {
		h, m := begin()
		if !h.Worn() || reg(t, m, api.RCommit) != 0 != (what == "pending") {
			t.Fatalf("%s: worn %v, RCommit %d", what, h.Worn(), reg(t, m, api.RCommit))
		}
		was, w := all(t, m), words(t, h)
		for _, x := range []struct {
			op  api.Op
			err api.Errno
		}{
			{alloc(0), api.ErrArg}, {alloc(449), api.ErrArg}, {alloc(8), api.ErrWorn}, {alloc(448), api.ErrWorn},
			{free(9), api.ErrArg}, {free(8), api.ErrState}, {free(24), api.ErrWorn},
			{read(8, 9), api.ErrArg}, {write(8, odd(9, 1)...), api.ErrArg}, {write(7), api.ErrArg}, {write(8), api.OK}, {write(8, 5), api.ErrWorn}, {write(24, 9), api.ErrWorn},
			{root(9), api.ErrArg}, {root(8), api.ErrWorn}, {root(0), api.ErrWorn}, {root(24), api.ErrWorn},
			{api.Op{}, api.ErrArg}, {api.Op{Kind: api.OStart}, api.ErrArg},
		} {
			refused(t, h, x.op, x.err)
		}
		told(t, h, get, api.Ans{Off: 8})
		told(t, h, read(8, 2), api.Ans{Data: []byte{5, 0}})
		if what == "pending" {
			told(t, h, read(24, 2), api.Ans{Data: []byte{7, 0}})
		}
		if all(t, m) != was || !slices.Equal(words(t, h), w) || !h.Worn() {
			t.Errorf("%s: something was changed", what)
		}
		cut(m)
		for _, op := range []api.Op{alloc(0), alloc(8), free(9), read(8, 1), write(8), root(9), get} {
			refused(t, h, op, api.ErrDown)
		}
		if h.Worn() != (what == "refused") {
			t.Errorf("%s: worn %v without power", what, h.Worn())
		}
	}
}

// T1: till the heap is opened anew: then it is Worn no more, unless something stays Pending.
func TestWornAnew(t *testing.T) {
	for what, begin := range wornOut(t) {
		h, m := begin()
		w := words(t, h)
		x := opened(t, m, api.Plan{Lines: 2, Period: 1000, Batch: 1})
		if x.Worn() != (what == "pending") || !h.Worn() || !slices.Equal(words(t, x), w) {
			t.Errorf("%s: worn %v, %v, %v", what, x.Worn(), h.Worn(), words(t, x))
		}
		if what == "refused" {
			told(t, x, root(24), api.Ans{})
			refused(t, x, write(8, 6), api.ErrWorn)
		} else {
			refused(t, x, root(24), api.ErrWorn)
		}
		told(t, x, read(8, 2), api.Ans{Data: []byte{5, 0}})
	}
}

// P21.2: what is refused as it can't be committed changes nothing that is read, and notes nothing.
func TestRefusedCommit(t *testing.T) {
	p := api.Plan{Lines: 2, Period: 1000, Batch: 1}
	for line := range 2 {
		for _, op := range []api.Op{alloc(8), write(24, 9), free(24)} {
			h, m := made(t, p, lasting(p, map[int]int{line: 2})...)
			done(t, h, alloc(8))
			done(t, h, alloc(16))
			w, counts := words(t, h), h.Counts()
			if h.Worn() {
				t.Fatal("worn too soon")
			}
			refused(t, h, op, api.ErrWorn)
			if !h.Worn() || !slices.Equal(words(t, h), w) || !slices.Equal(h.Counts(), counts) || reg(t, m, api.RCount) != uint64(counts[0]) {
				t.Errorf("line %d, %v: worn %v, %v, %v", line, op, h.Worn(), words(t, h), h.Counts())
			}
		}
	}
}

// P21.2: what is committed and stays Pending is told as done, and noted.
func TestPendingIsDone(t *testing.T) {
	p := api.Plan{Lines: 2, Period: 1000, Batch: 1}
	h, m := made(t, p, lasting(p, map[int]int{logLines: 1})...)
	told(t, h, alloc(8), api.Ans{Off: 8})
	if !h.Worn() || reg(t, m, api.RCommit) != 1 || !slices.Equal(h.Counts(), []int{1}) || reg(t, m, api.RCount) != 1 {
		t.Errorf("worn %v, RCommit %d, %v", h.Worn(), reg(t, m, api.RCommit), h.Counts())
	}
	if got := blocks(t, h); !slices.Equal(got, []api.Block{{At: 0, Size: 2, Used: true}, {At: 2, Size: 14}}) {
		t.Error(got)
	}
}

// P21.2: of blocks that fit alike the one is taken whose page was written least, as it is counted now, kept or not; of these the lowest one.
func TestPageWrittenLeast(t *testing.T) {
	for _, batch := range []int{1, 100} {
		h, _ := made(t, api.Plan{Lines: 12, Period: 1000, Batch: batch})
		var offs []int // of blocks of 4 words, 8 of them a page
		for range 24 {
			offs = append(offs, done(t, h, alloc(24)).Off)
		}
		hot, apart := []int{offs[0], offs[8], offs[16]}, []int{offs[1], offs[9], offs[17]}
		for _, off := range apart {
			done(t, h, free(off))
		}
		raise := func(page, to int) {
			for h.Counts()[page] < to {
				done(t, h, write(hot[page], 1))
			}
		}
		taken := func(page int) {
			t.Helper()
			told(t, h, alloc(24), api.Ans{Off: apart[page]})
			done(t, h, free(apart[page]))
		}
		for _, least := range []int{0, 1, 2, 1, 0, 2, 0} {
			for page := range 3 {
				if page != least {
					raise(page, h.Counts()[least]+1+page)
				}
			}
			taken(least)
		}
		for _, lowest := range []int{0, 1} {
			to := slices.Max(h.Counts()) + 1
			for page := range 3 {
				raise(page, to)
			}
			raise(0, to+lowest)
			taken(lowest)
		}
	}
}

// P21.2: each line that is changed is noted once a call; at each batch-th write of its page the count is Set.
func TestNoted(t *testing.T) {
	for _, batch := range []int{1, 2, 3, 7, 100} {
		p := api.Plan{Lines: 12, Period: 1000, Batch: batch}
		h, m := made(t, p)
		want, kept := []int{0, 0, 0}, []uint64{0, 0, 0}
		noted := func(lines ...int) {
			t.Helper()
			for _, line := range lines {
				want[line/4]++
				if want[line/4]%batch == 0 {
					kept[line/4] = uint64(want[line/4])
				}
			}
			if got := h.Counts(); !slices.Equal(got, want) {
				t.Fatalf("batch %d: %v, not %v", batch, got, want)
			}
			for page, v := range kept {
				if got := reg(t, m, api.RCount+page); got != v {
					t.Fatalf("batch %d, page %d: %d, not %d", batch, page, got, v)
				}
			}
		}
		noted()
		done(t, h, alloc(440))
		noted(0, 1, 2, 3, 4, 5, 6, 7)
		for range 8 {
			done(t, h, write(8, odd(200, 1)...))
			noted(0, 1, 2, 3)
			done(t, h, write(60, odd(8, 1)...))
			noted(0, 1)
			done(t, h, write(250, odd(10, 1)...))
			noted(3, 4)
			done(t, h, write(256, odd(64, 1)...))
			noted(4)
			done(t, h, write(256))
			noted()
			done(t, h, alloc(60))
			noted(7, 8)
			done(t, h, read(8, 200))
			done(t, h, root(8))
			refused(t, h, free(8), api.ErrState)
			noted()
			done(t, h, free(456))
			noted(7)
		}
		x := opened(t, m, p)
		for page, n := range x.Counts() {
			if n != int(kept[page]) {
				t.Errorf("batch %d: %v, not %v", batch, x.Counts(), kept)
			}
		}
	}
}

// P21.2: how many writes a commit has where none moves the gap: the index, the data, the register, the homes, the register, and the counts that are kept.
func TestWrites(t *testing.T) {
	for _, x := range []struct {
		op     api.Op
		writes int
	}{
		{write(8, 1), 1 + 1 + 1 + 1 + 1 + 1},
		{write(60, odd(8, 1)...), 1 + 2 + 1 + 2 + 1 + 2},
		{write(8, odd(448, 1)...), 1 + 8 + 1 + 8 + 1 + 8},
		{alloc(448), 2 + 9 + 1 + 9 + 1 + 9},
		{free(8), 6},
		{root(8), 1},
		{root(0), 1},
		{write(8), 0},
		{read(8, 100), 0},
		{get, 0},
		{alloc(0), 0},
		{write(7, 1), 0},
		{free(9), 0},
		{root(9), 0},
		{api.Op{}, 0},
	} {
		h, m := made(t, api.Plan{Lines: 40, Period: 1000, Batch: 1})
		done(t, h, alloc(448))
		done(t, h, alloc(40))
		was := m.Writes()
		h.Do(x.op)
		if got := m.Writes() - was; got != x.writes {
			t.Errorf("%v: %d writes, not %d", x.op.Kind, got, x.writes)
		}
	}
}

// P21.2: the power goes where a count is Set: ErrDown, though it is committed.
func TestCutAtACount(t *testing.T) {
	p := api.Plan{Lines: 8, Period: 1000, Batch: 1}
	for mask := range 2 {
		for at := 7; at <= 8; at++ {
			h, m := made(t, p)
			done(t, h, alloc(300))
			m.Cut(at, mask)
			refused(t, h, write(250, odd(10, 4)...), api.ErrDown)
			m.Power()
			x := opened(t, m, p)
			told(t, x, read(250, 10), api.Ans{Data: odd(10, 4)})
			want := []int{4 + mask, 1}
			if at == 8 {
				want = []int{5, 1 + mask}
			}
			if got := x.Counts(); !slices.Equal(got, want) {
				t.Errorf("cut at %d, mask %d: %v, not %v", at, mask, got, want)
			}
		}
	}
}

// P21.2: the power goes where the root is Set: it is either one.
func TestCutAtTheRoot(t *testing.T) {
	p := api.Plan{Lines: 8, Period: 1000, Batch: 1}
	for mask := range 2 {
		h, m := made(t, p)
		done(t, h, alloc(30))
		m.Cut(0, mask)
		refused(t, h, root(8), api.ErrDown)
		m.Power()
		told(t, opened(t, m, p), get, api.Ans{Off: 8 * mask})
	}
}

// P21.3: what is told of a heap, by the memory's registers.
func TestTold(t *testing.T) {
	p := api.Plan{Lines: 3, Spare: 4, Period: 2, Batch: 3}
	h, m := made(t, p, lasting(p, map[int]int{0: 3, 5: 1, 9: 2})...)
	for i := range 40 {
		h.Do(alloc(1 + i%20))
		h.Do(write(8, odd(3, i)...))
		if i%3 == 0 {
			h.Do(free(8))
		}
		left := 0
		for place := range p.Spare {
			if reg(t, m, api.RTable+place) == 0 {
				left++
			}
		}
		if h.Moves() != int(reg(t, m, api.RMoves)) || h.Left() != left || len(h.Counts()) != 1 || len(words(t, h)) != 24 {
			t.Fatalf("step %d: %d moves, %d left", i, h.Moves(), h.Left())
		}
	}
	if h.Left() == p.Spare || h.Moves() < 40 {
		t.Errorf("%d moves, %d left", h.Moves(), h.Left())
	}
}

// R2: nothing that is handed in is changed or kept, nor is anything told that the heap keeps.
func TestOwnMemory(t *testing.T) {
	h, _ := made(t, api.Plan{Lines: 8, Period: 3, Batch: 3})
	done(t, h, alloc(40))
	b := odd(60, 1)
	done(t, h, write(8, b[:40]...))
	if !bytes.Equal(b, odd(60, 1)) {
		t.Error("what was handed in is changed")
	}
	for i := range b {
		b[i] = 0
	}
	told(t, h, read(8, 40), api.Ans{Data: odd(40, 1)})
	w, counts, data := words(t, h), h.Counts(), done(t, h, read(8, 40)).Data
	clear(w)
	clear(counts)
	clear(data)
	told(t, h, read(8, 40), api.Ans{Data: odd(40, 1)})
	if words(t, h)[0] == 0 || h.Counts()[0] == 0 {
		t.Error("what was told is kept")
	}
}

// R3: a heap that is none tells zero values, and ErrArg.
func TestNone(t *testing.T) {
	for what, h := range map[string]*heap.Heap{"nil": nil, "new": new(heap.Heap)} {
		for _, op := range []api.Op{alloc(8), alloc(0), free(8), read(8, 0), write(8), write(8, 1), root(0), get, {}, {Kind: api.OCut}, {Kind: 99}} {
			refused(t, h, op, api.ErrArg)
		}
		if w, err := h.Words(); w != nil || err != api.ErrArg {
			t.Errorf("%s: %v, %d", what, w, err)
		}
		if h.Counts() != nil || h.Worn() || h.Moves() != 0 || h.Left() != 0 {
			t.Errorf("%s: %v, %v, %d, %d", what, h.Counts(), h.Worn(), h.Moves(), h.Left())
		}
	}
}

// R3: a memory that is changed behind the heap's back makes no call panic.
func TestBehindItsBack(t *testing.T) {
	p := api.Plan{Lines: 2, Spare: 1, Period: 1, Batch: 1}
	ops := []api.Op{alloc(8), free(8), read(8, 1), write(8, 1), write(8), root(8), root(0), get}
	for i := range api.Regs {
		for _, v := range []uint64{1, 14, 15, 20, 21, 1 << 40, 1 << 62, math.MaxInt, 1 << 63, math.MaxUint64} {
			h, m := made(t, p)
			done(t, h, alloc(8))
			set(t, m, i, v)
			for _, op := range ops {
				if a := h.Do(op); a.Err == api.ErrDown {
					t.Errorf("register %d is %d: %v: %v", i, v, op, a)
				}
			}
			h.Words()
			h.Moves()
			h.Left()
			if i == api.RCommit && !h.Worn() {
				t.Errorf("RCommit %d: not worn", v)
			}
		}
	}
	h, m := made(t, p)
	done(t, h, alloc(8))
	for line := range m.Lines() {
		m.Put(line, own(line))
	}
	for _, op := range []api.Op{alloc(8), free(8), read(8, 1), write(8, 1), write(8)} {
		refused(t, h, op, api.ErrForm)
	}
	refused(t, h, root(8), api.ErrArg)
}
