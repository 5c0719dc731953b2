package heap_test

import (
	"slices"
	"testing"

	"darning/api"
	"darning/carve"
	"darning/chain"
	"darning/cost"
	"darning/fit"
	"darning/heap"
	img "darning/image"
	"darning/log"
	"darning/model"
	"darning/nvm"
	"darning/plan"
	"darning/span"
	"darning/turn"
)

// script is numbers that are the same in each run.
type script uint64

func (s *script) below(n int) int {
	*s = *s*6364136223846793005 + 1442695040888963407
	return int(uint64(*s) >> 33 % uint64(n))
}

// oneOf tells one of them, or n where there is none.
func (s *script) oneOf(l []int, n int) int {
	if len(l) == 0 {
		return n
	}
	return l[s.below(len(l))]
}

// op is an operation on a heap of such blocks: most times one that may be.
func (s *script) op(l []api.Block) api.Op {
	var offs []int
	for _, b := range l {
		if b.Used {
			offs = append(offs, carve.Off(b))
		}
	}
	off := s.oneOf(offs, 8)
	if s.below(12) == 0 {
		off += s.below(40) - 20
	}
	switch s.below(12) {
	case 0, 1, 2:
		return alloc(s.below(60) + 1)
	case 3:
		return alloc(s.below(460) - 3)
	case 4, 5:
		return free(off)
	case 6:
		return root(s.oneOf([]int{off, 0}, 0))
	case 7:
		return get
	case 8:
		return read(off, s.below(60))
	case 9:
		return api.Op{Kind: s.below(11) - 1, Off: off, N: s.below(60)}
	}
	return write(off+s.below(8), odd(s.below(50), s.below(250))...)
}

// plan is one of small heaps, so that they fill up, and wear.
func (s *script) plan() api.Plan {
	return api.Plan{Lines: 1 + s.below(14), Spare: s.below(mostSpare + 1), Period: 1 + s.below(6), Batch: 1 + s.below(4)}
}

// limits are such that lines wear out soon; the heap's first line can be written once at least, by a Format.
func (s *script) limits(p api.Plan, longest int) []int {
	limits := make([]int, plan.Device(p))
	for i := range limits {
		limits[i] = s.below(longest) - 1
	}
	limits[logLines] = max(limits[logLines], 1)
	return limits
}

// other is a heap made otherwise: it keeps its words by itself, and reads them at a start alone; what is written it lays out as homes, registers and counts, by the chapter's sentences. What it tells must be told, write for write.
type other struct {
	m      *nvm.Memory
	p      api.Plan
	x      *turn.Turn
	g      *log.Log
	w      []uint64
	root   int
	counts []int
	kept   []int
	worn   bool
}

// start is what an Open does; no, if there is no power, or it goes.
func (o *other) start() bool {
	o.x = turn.New(o.m, logLines+o.p.Lines, o.p.Spare, o.p.Period)
	if o.x == nil {
		return false
	}
	o.g = log.New(o.m, o.x)
	if o.g.Recover() != api.OK {
		return false
	}
	o.w, o.counts, o.kept, o.worn = nil, nil, nil, false
	for line := range o.p.Lines {
		d, _ := o.g.Get(logLines + line)
		o.w = append(o.w, d[:]...)
		if line%4 == 0 {
			v, _ := o.m.Reg(api.RCount + line/4)
			o.counts, o.kept = append(o.counts, int(v)), append(o.kept, int(v))
		}
	}
	v, _ := o.m.Reg(api.RRoot)
	o.root = int(v)
	return true
}

func (o *other) do(op api.Op) api.Ans {
	if op.Kind < api.OAlloc || op.Kind > api.OGet {
		return api.Ans{Err: api.ErrArg}
	}
	if o.m.Down() {
		return api.Ans{Err: api.ErrDown}
	}
	var edits []api.Edit
	var a api.Ans
	worn := o.worn || o.g.Pending()
	switch op.Kind {
	case api.OGet:
		return api.Ans{Off: o.root}
	case api.ORead:
		a.Data, a.Err = img.Read(o.w, op.Off, op.N)
		return a
	case api.OAlloc:
		if edits, a.Off, a.Err = img.Alloc(o.w, op.N, o.counts); a.Err == api.ErrSpace && worn {
			a.Err = api.ErrWorn
		}
	case api.OFree:
		if edits, a.Err = img.Free(o.w, op.Off); a.Err == api.OK && op.Off == o.root {
			a.Err = api.ErrState
		}
	case api.OWrite:
		if edits, a.Err = img.Write(o.w, op.Off, op.Data); len(op.Data) == 0 {
			return api.Ans{Err: a.Err}
		}
	case api.ORoot:
		if op.Off != 0 && !img.Is(o.w, op.Off) {
			a.Err = api.ErrArg
		}
	}
	if a.Err == api.OK && worn {
		a.Err = api.ErrWorn
	}
	if a.Err == api.OK && op.Kind == api.ORoot {
		a.Err = o.m.Set(api.RRoot, uint64(op.Off))
		o.root = op.Off
	} else if a.Err == api.OK {
		a.Err = o.commit(edits)
	}
	if a.Err != api.OK {
		return api.Ans{Err: a.Err}
	}
	return a
}

func (o *other) commit(edits []api.Edit) api.Errno {
	after := slices.Clone(o.w)
	touched := make([]int, o.p.Lines)
	for _, e := range edits {
		after[e.Word] = e.Val
		touched[e.Word/8]++
	}
	var h []api.Home
	for line, n := range touched {
		if n > 0 {
			var d api.Line
			copy(d[:], after[8*line:])
			h = append(h, api.Home{Line: logLines + line, Data: d})
		}
	}
	err := o.g.Commit(h)
	o.worn = o.worn || err == api.ErrWorn
	if err != api.OK {
		return err
	}
	o.w = after
	for _, x := range h {
		page := (x.Line - logLines) / 4
		o.counts[page]++
		if o.counts[page]-o.kept[page] < o.p.Batch {
			continue
		}
		o.kept[page] = o.counts[page]
		if err := o.m.Set(api.RCount+page, uint64(o.counts[page])); err != api.OK {
			return err
		}
	}
	return api.OK
}

// alike asks for all that is told of a heap, and of the memory below.
func (o *other) alike(t *testing.T, h *heap.Heap, m *nvm.Memory) {
	t.Helper()
	if m.Down() != o.m.Down() || m.Writes() != o.m.Writes() || !slices.Equal(h.Counts(), o.counts) || h.Moves() != o.x.Moves() || h.Left() != o.x.Left() {
		t.Fatalf("down %v, %d writes, %v, %d moves, %d left, not %v, %d, %v, %d, %d", m.Down(), m.Writes(), h.Counts(), h.Moves(), h.Left(), o.m.Down(), o.m.Writes(), o.counts, o.x.Moves(), o.x.Left())
	}
	if h.Worn() != (o.worn || o.g.Pending()) {
		t.Fatalf("worn %v", h.Worn())
	}
	w, err := h.Words()
	if m.Down() {
		if err != api.ErrDown || w != nil {
			t.Fatalf("words without power: %v, %d", w, err)
		}
		return
	}
	if err != api.OK || !slices.Equal(w, o.w) || all(t, m) != all(t, o.m) {
		t.Fatalf("words %v, %d, not %v, or the memories hold others", w, err, o.w)
	}
}

// P21.1 to P21.3: long runs, with cuts and lines that wear out, tell what a heap tells that is made otherwise, and leave the same in the memory.
func TestRuns(t *testing.T) {
	times := map[api.Errno]int{}
	for seed := range 300 {
		s := script(seed)
		s.below(2)
		p := s.plan()
		limits := s.limits(p, []int{1, 20, 60, 400}[s.below(4)])
		m, o := nvm.New(len(limits), limits), &other{m: nvm.New(len(limits), limits), p: p}
		if err := heap.Format(m, p); err != api.OK {
			continue
		}
		heap.Format(o.m, p)
		h := opened(t, m, p)
		o.start()
		for range 80 {
			switch s.below(12) {
			case 0:
				goes, mask := s.below(60)-1, s.below(256)
				m.Cut(goes, mask)
				o.m.Cut(goes, mask)
			case 1:
				if s.below(3) > 0 {
					m.Power()
					o.m.Power()
				}
				x, err := heap.Open(m, p)
				if ok := o.start(); ok != (err == api.OK) || ok != (x != nil) || !ok && err != api.ErrDown {
					t.Fatalf("seed %d: Open: %d", seed, err)
				}
				if x != nil {
					h = x
				} else {
					m.Power()
					o.m.Power()
					h = opened(t, m, p)
					o.start()
				}
			default:
				op := s.op(o.blocks())
				got, want := h.Do(op), o.do(op)
				if !same(got, want) {
					t.Fatalf("seed %d: %v: %v, not %v", seed, op, got, want)
				}
				times[got.Err]++
				if got.Err == api.ErrDown && m.Down() && s.below(2) == 0 {
					m.Power()
					o.m.Power()
					h = opened(t, m, p)
					o.start()
				}
			}
			o.alike(t, h, m)
		}
	}
	for _, err := range []api.Errno{api.OK, api.ErrArg, api.ErrDown, api.ErrWorn, api.ErrSpace, api.ErrState} {
		if times[err] < 100 {
			t.Errorf("%d was told %d times alone", err, times[err])
		}
	}
}

func (o *other) blocks() []api.Block {
	l, _ := chain.Blocks(o.w)
	return l
}

// follow lets a model go along with a heap that isn't worn: T1, T3.
func follow(t *testing.T, x *model.Model, op api.Op, a api.Ans) {
	t.Helper()
	var want api.Ans
	switch op.Kind {
	case api.OAlloc:
		fits := x.Fits(op.N)
		switch {
		case fit.Need(op.N) == 0:
			want.Err = api.ErrArg
		case len(fits) == 0:
			want.Err = api.ErrSpace
		case !x.Alloc(op.N, a.Off):
			t.Fatalf("%v: %v is none of %v", op, a, fits)
		default:
			want.Off = a.Off
		}
	case api.OFree:
		want.Err = x.Free(op.Off)
	case api.ORead:
		want.Data, want.Err = x.Read(op.Off, op.N)
	case api.OWrite:
		want.Err = x.Write(op.Off, op.Data)
	case api.ORoot:
		want.Err = x.SetRoot(op.Off)
	case api.OGet:
		want.Off = x.Root()
	default:
		want.Err = api.ErrArg
	}
	if !same(a, want) {
		t.Fatalf("%v: %v, not %v", op, a, want)
	}
}

// changes tells whether an operation would change something of a model.
func changes(x *model.Model, op api.Op) bool {
	y := x.Copy()
	switch op.Kind {
	case api.OAlloc:
		return fit.Need(op.N) != 0
	case api.OFree:
		return y.Free(op.Off) == api.OK
	case api.OWrite:
		return len(op.Data) > 0 && y.Write(op.Off, op.Data) == api.OK
	case api.ORoot:
		return y.SetRoot(op.Off) == api.OK
	}
	return false
}

// isModel asks for the blocks, the bytes and the root of a model.
func isModel(t *testing.T, h *heap.Heap, x *model.Model) {
	t.Helper()
	l := blocks(t, h)
	if !slices.Equal(l, x.Blocks()) || done(t, h, get).Off != x.Root() {
		t.Fatalf("%v, not %v", l, x.Blocks())
	}
	w := words(t, h)
	for _, b := range l {
		for word := b.At + 1; b.Used && word < b.At+b.Size; word++ {
			is, _ := span.Read(w, 8*word, 8)
			if want, _ := x.Read(8*word, 8); !slices.Equal(is, want) {
				t.Fatalf("word %d: %v, not %v", word, is, want)
			}
		}
	}
}

// P21.4, T1, T3, T4: without power cuts the answers are a run of the model, till a line fails and no spare is left; from then on what would change something tells ErrWorn. Each call has so many writes at most.
func TestIsARun(t *testing.T) {
	wornOut, anew := 0, 0
	for seed := range 300 {
		s := script(seed)
		s.below(2)
		p := s.plan()
		limits := s.limits(p, []int{1, 30, 100, 1000}[s.below(4)])
		m := nvm.New(len(limits), limits)
		if err := heap.Format(m, p); err != api.OK {
			continue
		}
		h, x := opened(t, m, p), model.New(8*p.Lines)
		for range 100 {
			op := s.op(x.Blocks())
			was, left, writes := h.Worn(), h.Left(), m.Writes()
			a := h.Do(op)
			if m.Writes()-writes > cost.Op(op, left-h.Left()) {
				t.Fatalf("seed %d: %v: %d writes, %d replaced", seed, op, m.Writes()-writes, left-h.Left())
			}
			switch {
			case a.Err == api.ErrWorn && !(changes(x, op) && h.Worn()), was && changes(x, op) && a.Err != api.ErrWorn, h.Worn() && h.Left() > 0:
				t.Fatalf("seed %d: %v: %v, worn %v, %d left", seed, op, a, was, h.Left())
			case a.Err != api.ErrWorn:
				follow(t, x, op, a)
			}
			isModel(t, h, x)
			if !h.Worn() {
				continue
			}
			wornOut++
			if s.below(6) == 0 {
				h = reopened(t, m, p, left)
				isModel(t, h, x)
				if !h.Worn() {
					anew++
				}
			}
		}
	}
	if wornOut < 1000 || anew < 20 {
		t.Errorf("worn %d times, %d times no more", wornOut, anew)
	}
}

// reopened opens a heap anew, with no more writes than a recovery has.
func reopened(t *testing.T, m *nvm.Memory, p api.Plan, left int) *heap.Heap {
	t.Helper()
	writes := m.Writes()
	h := opened(t, m, p)
	if got := m.Writes() - writes; got > cost.Recover(left-h.Left()) {
		t.Fatalf("%d writes of a recovery", got)
	}
	return h
}

// state is what a heap is to keep, whatever the power does.
type state struct {
	w    []uint64
	root int
}

func stateOf(t *testing.T, h *heap.Heap) state {
	t.Helper()
	return state{words(t, h), done(t, h, get).Off}
}

func (a state) is(b state) bool {
	return slices.Equal(a.w, b.w) && a.root == b.root
}

// begun is a heap on lines that last so long, with calls behind it, ahead of the one that is cut.
func begun(t *testing.T, p api.Plan, limits []int) (*heap.Heap, *nvm.Memory) {
	t.Helper()
	h, m := made(t, p, limits...)
	for _, op := range []api.Op{alloc(90), alloc(200), alloc(20), write(112, odd(200, 5)...), free(320), root(112)} {
		done(t, h, op)
	}
	return h, m
}

// soon are limits such that some lines last for as many writes as those calls have, and for few more.
func (s *script) soon(t *testing.T, p api.Plan) []int {
	t.Helper()
	limits := forever(plan.Device(p))
	_, m := begun(t, p, limits)
	for range s.below(3) * s.below(40) {
		line := s.below(len(limits))
		limits[line] = m.Wear(line) + s.below(3)
	}
	return limits
}

// recovers lets the power come, and go again in recoveries, and asks for one state from then on.
func recovers(t *testing.T, m *nvm.Memory, p api.Plan, cuts ...int) state {
	t.Helper()
	for _, at := range cuts {
		m.Power()
		m.Cut(at, 0b1101)
		if h, err := heap.Open(m, p); (h != nil) != (err == api.OK) || err != api.OK && (err != api.ErrDown || !m.Down()) {
			t.Fatalf("a recovery cut at %d: %d", at, err)
		}
	}
	m.Power()
	is := stateOf(t, opened(t, m, p))
	if again := stateOf(t, opened(t, m, p)); !again.is(is) {
		t.Fatalf("recovered again: %v, not %v", again, is)
	}
	return is
}

// P21.4, T2: whenever the power goes in a call, all is as it was, or as the call made it; what was answered stays; recovered again it is the same. So it is whether lines last, or are replaced, or none is left.
func TestWhole(t *testing.T) {
	var lasted, replaced, refused, pending int
	for seed := range 210 {
		s := script(seed)
		s.below(2)
		p := api.Plan{Lines: 12, Spare: s.below(5), Period: 1 + s.below(4), Batch: 1 + s.below(3)}
		limits := s.soon(t, p)
		op := []api.Op{alloc(100), alloc(300), write(8, odd(90, 8)...), write(300, odd(12, 9)...), free(8), root(8), root(0)}[seed%7]
		h, m := begun(t, p, limits)
		old, writes, left := stateOf(t, h), m.Writes(), h.Left()
		a := h.Do(op)
		writes = m.Writes() - writes
		wholeAt(t, p, limits, op, a, old, stateOf(t, h), writes)
		switch {
		case a.Err == api.ErrWorn:
			refused++
		case h.Worn():
			pending++
		case h.Left() < left:
			replaced++
		default:
			lasted++
		}
	}
	if lasted < 50 || replaced < 20 || refused < 10 || pending < 10 {
		t.Errorf("%d lasted, %d replaced, %d refused, %d pending", lasted, replaced, refused, pending)
	}
}

// wholeAt cuts a call at each of its writes, of which it has so many: behind a recovery the state is old or now.
func wholeAt(t *testing.T, p api.Plan, limits []int, op api.Op, a api.Ans, old, now state, writes int) {
	t.Helper()
	if a.Err != api.OK && (a.Err != api.ErrWorn || !now.is(old)) {
		t.Fatalf("%v, %v, %v: %v", p, limits, op, a)
	}
	seen := map[bool]int{}
	for at := range writes + 2 {
		for _, mask := range []int{0, 1, 0b1010, 0b11111110, 255} {
			h, m := begun(t, p, limits)
			m.Cut(at, mask)
			got := h.Do(op)
			cut := at < writes
			if m.Down() != cut || cut && !same(got, api.Ans{Err: api.ErrDown}) || !cut && !same(got, a) {
				t.Fatalf("%v, %v, %v, cut at %d of %d: %v, not %v", p, limits, op, at, writes, got, a)
			}
			is := recovers(t, m, p, at%5, at%7, at%3)
			if !is.is(now) && (!is.is(old) || !cut) {
				t.Fatalf("%v, %v, %v, cut at %d, mask %d: %v is neither %v nor %v", p, limits, op, at, mask, is, old, now)
			}
			seen[is.is(now)]++
		}
	}
	if a.Err == api.OK && (seen[true] == 0 || seen[false] == 0) {
		t.Errorf("%v, %v, %v: %v", p, limits, op, seen)
	}
}

// P21.4, T2: what is kept of the counts lags by less than Batch, and never leads, wherever the power goes.
func TestCountsLag(t *testing.T) {
	p := api.Plan{Lines: 10, Spare: 1, Period: 4, Batch: 3}
	for at := range 120 {
		h, m := made(t, p)
		m.Cut(at, at%2)
		for i := range 12 {
			if i%3 == 0 {
				h.Do(alloc(60))
			} else {
				h.Do(write(8, odd(50, i)...))
			}
		}
		counts := h.Counts()
		m.Power()
		for page, kept := range opened(t, m, p).Counts() {
			// The count that was to be kept as the power went may not be.
			if kept > counts[page] || counts[page]-kept > p.Batch {
				t.Fatalf("cut at %d: %d of %d", at, kept, counts[page])
			}
		}
	}
}

// P21.4, T3: all blocks of two lines: Alloc is refused just where no free one is large enough; where some is, one of the smallest is taken.
func TestRoom(t *testing.T) {
	p := api.Plan{Lines: 2, Period: 1000, Batch: 1}
	for which := range 1 << 8 {
		h, m := made(t, p)
		var offs []int
		for range 8 {
			offs = append(offs, done(t, h, alloc(8)).Off)
		}
		for i, off := range offs {
			if which>>i&1 == 1 {
				done(t, h, free(off))
			}
		}
		l := blocks(t, h)
		for n := range 130 {
			need := fit.Need(n)
			least := 0
			for _, b := range l {
				if !b.Used && b.Size >= need && (least == 0 || b.Size < least) {
					least = b.Size
				}
			}
			writes := m.Writes()
			a := h.Do(alloc(n))
			switch {
			case n == 0 && a.Err != api.ErrArg, n > 0 && least == 0 && a.Err != api.ErrSpace, n > 0 && least > 0 && a.Err != api.OK:
				t.Fatalf("%v: %d bytes: %v", l, n, a)
			case a.Err != api.OK && m.Writes() != writes:
				t.Fatalf("%v: %d bytes: %d writes", l, n, m.Writes()-writes)
			case a.Err != api.OK:
				continue
			}
			if i := chain.At(l, a.Off/8); l[i].Used || l[i].Size != least || a.Off != 8*l[i].At+8 {
				t.Fatalf("%v: %d bytes: %v, the smallest has %d", l, n, a, least)
			}
			done(t, h, free(a.Off))
			if got := blocks(t, h); !slices.Equal(got, l) {
				t.Fatalf("%v, not %v", got, l)
			}
		}
	}
}

// P21.4, T5: the gap has moved once for so many writes of lines, so that no line of the memory is written for ever.
func TestRound(t *testing.T) {
	for _, period := range []int{1, 2, 3, 10, 37} {
		p := api.Plan{Lines: 3, Spare: 2, Period: period, Batch: 5}
		h, m := made(t, p)
		done(t, h, alloc(30))
		h = opened(t, m, p)
		wears := func() (sum, most int) {
			for line := range m.Lines() {
				sum += m.Wear(line)
				most = max(most, m.Wear(line))
			}
			return sum, most
		}
		began, _ := wears()
		moved := h.Moves()
		for i := range 3000 {
			done(t, h, write(8, byte(i)))
			sum, _ := wears()
			moves := h.Moves() - moved
			if puts := sum - began - moves; moves != puts/period {
				t.Fatalf("period %d, step %d: %d moves, %d Puts", period, i, moves, puts)
			}
		}
		// A line is written at most so often till it has moved on, and there are 20 slots.
		if sum, most := wears(); most > sum/20+2*period*20 {
			t.Errorf("period %d: a line was written %d times of %d", period, most, sum)
		}
	}
}

// R6: what is kept from call to call is in the memory: a heap that is opened anew behind each call tells the same.
func TestOpenedBehindEachCall(t *testing.T) {
	p := api.Plan{Lines: 6, Spare: 2, Period: 1, Batch: 1}
	a, b := nvm.New(plan.Device(p), nil), nvm.New(plan.Device(p), nil)
	heap.Format(a, p)
	heap.Format(b, p)
	h, s := opened(t, a, p), script(5)
	for step := range 400 {
		op := s.op(blocks(t, h))
		x := opened(t, b, p)
		if got, want := x.Do(op), h.Do(op); !same(got, want) {
			t.Fatalf("step %d: %v: %v, not %v", step, op, got, want)
		}
		if !slices.Equal(words(t, x), words(t, h)) || !slices.Equal(x.Counts(), h.Counts()) || x.Moves() != h.Moves() || all(t, a) != all(t, b) {
			t.Fatalf("step %d: %v", step, op)
		}
	}
}
