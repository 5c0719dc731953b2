package tower_test

import (
	"slices"
	"testing"

	"darning/api"
	"darning/carve"
	"darning/chain"
	"darning/code"
	"darning/cost"
	"darning/fit"
	"darning/gap"
	"darning/heap"
	"darning/judge"
	"darning/model"
	"darning/nvm"
	"darning/span"
	"darning/tower"
)

// script is numbers that are the same in each run.
type script uint64

func (s *script) below(n int) int {
	*s = *s*6364136223846793005 + 1442695040888963407
	return int(uint64(*s) >> 33 % uint64(n))
}

func (s *script) bytes(n int) []byte {
	b := make([]byte, n)
	for i := range b {
		b[i] = byte(s.below(256))
	}
	return b
}

// plan is one of small heaps, so that they fill up, and wear.
func (s *script) plan() api.Plan {
	return api.Plan{Lines: 1 + s.below(14), Spare: s.below(mostSpare + 1), Period: 1 + s.below(6), Batch: 1 + s.below(4)}
}

// limits are such that lines wear out soon; the heap's first line can be written once at least, by a Format.
func (s *script) limits(p api.Plan, longest int) []int {
	limits := make([]int, device(p))
	for i := range limits {
		limits[i] = s.below(longest) - 1
	}
	limits[logLines] = max(limits[logLines], 1)
	return limits
}

// op is an operation on a heap of such blocks: most times one that may be.
func (s *script) op(l []api.Block) api.Op {
	offs := []int{8}
	for _, b := range l {
		if b.Used {
			offs = append(offs, carve.Off(b))
		}
	}
	off := offs[s.below(len(offs))]
	if s.below(12) == 0 {
		off += s.below(16)
	}
	switch s.below(12) {
	case 0, 1, 2:
		return alloc(s.below(60) + 1)
	case 3:
		return alloc(s.below(mostBytes + 4))
	case 4, 5:
		return free(off)
	case 6:
		return root(off * s.below(2))
	case 7:
		return get
	case 8, 9:
		return read(off, s.below(60))
	}
	return write(off+s.below(8), s.bytes(s.below(50))...)
}

// named is what the chapter names, called by hand, on a memory of its own.
type named struct {
	p api.Plan
	m *nvm.Memory
	h *heap.Heap
}

// do tells the answer, and how many writes it had.
func (n *named) do(op api.Op) (api.Ans, int) {
	before, a := n.m.Writes(), errno(api.ErrState)
	switch {
	case op.Kind == api.OCut:
		n.m.Cut(op.N, op.Mask)
		a = done
	case op.Kind == api.OStart:
		n.m.Power()
		h, err := heap.Open(n.m, n.p)
		n.h, a = h, errno(err)
	case n.h != nil:
		a = n.h.Do(op)
	}
	return a, n.m.Writes() - before
}

func (n *named) blocks() []api.Block {
	w, _ := n.h.Words()
	l, _ := chain.Blocks(w)
	return l
}

// anyOp is one of any kind, those on the power among them.
func (s *script) anyOp(l []api.Block) api.Op {
	switch s.below(16) {
	case 0:
		return cut(s.below(60)-1, s.below(256))
	case 1, 2:
		return start
	case 3:
		return api.Op{Kind: s.below(12) - 1, Off: s.below(20), N: s.below(40), Mask: s.below(3)}
	}
	return s.op(l)
}

// P26.1: long runs tell, write and leave what the calls do that the chapter names: with cuts, on lines that wear out, and on memories that something else writes to.
func TestDoIsWhatItNames(t *testing.T) {
	times := map[api.Errno]int{}
	for seed := range 300 {
		s := script(seed)
		s.below(2)
		p := s.plan()
		limits := s.limits(p, []int{1, 20, 60, 400}[s.below(4)])
		n := &named{p: p, m: nvm.New(device(p), limits)}
		err := heap.Format(n.m, p)
		x, got := tower.New(p, limits)
		if got != err {
			t.Fatalf("seed %d: New: %d, not %d", seed, got, err)
		}
		if err != api.OK {
			continue
		}
		n.do(start)
		for range 120 {
			if s.below(30) == 0 {
				reg, v := s.below(api.RTable), uint64(1)<<s.below(60)
				n.m.Set(reg, v)
				x.Memory().Set(reg, v)
			}
			op := s.anyOp(n.blocks())
			want, writes := n.do(op)
			if got := x.Do(op); !same(got, want) || x.Cost() != writes || (x.Heap() == nil) != (n.h == nil) || x.Memory().Down() != n.m.Down() {
				t.Fatalf("seed %d: %v: %v, %d writes, not %v, %d", seed, op, got, x.Cost(), want, writes)
			}
			times[want.Err]++
		}
		x.Memory().Power()
		n.m.Power()
		if !slices.Equal(held(t, x.Memory()), held(t, n.m)) {
			t.Fatalf("seed %d: the memories hold others", seed)
		}
	}
	for err := api.OK; err <= api.ErrForm; err++ {
		if times[err] < 100 {
			t.Errorf("%d was told %d times alone", err, times[err])
		}
	}
}

// P26.2: a script's answers are those of a new tower, for each operation that its bytes are, whatever they are.
func TestRunIsDo(t *testing.T) {
	for seed := range 400 {
		s := script(seed)
		s.below(2)
		p, b := s.plan(), s.bytes(s.below(300))
		for i := range b { // so that most bytes are operations, near what there is
			if i%4 != 3 && s.below(4) > 0 {
				b[i] = []byte{byte(s.below(10)), byte(8 * s.below(12)), 0}[i%4]
			}
		}
		var limits []int
		if s.below(2) == 0 {
			limits = s.limits(p, 1+s.below(60))
		}
		l, err := tower.Run(p, limits, b)
		x, want := tower.New(p, limits)
		if err != want || err != api.OK && l != nil {
			t.Fatalf("seed %d: %v, %d, not %d", seed, l, err, want)
		}
		if err != api.OK {
			continue
		}
		ops := code.Decode(b)
		if len(ops) != len(l) {
			t.Fatalf("seed %d: %d answers to %d operations", seed, len(l), len(ops))
		}
		for i, op := range ops {
			if a := x.Do(op); !same(l[i], a) {
				t.Fatalf("seed %d, step %d: %v: %v, not %v", seed, i, op, l[i], a)
			}
		}
	}
}

// P26.3, T1: without power cuts a script's answers are a run of the model, on lines that last, and on such as wear out.
func TestRunIsARun(t *testing.T) {
	worn := 0
	for seed := range 200 {
		s := script(seed)
		s.below(2)
		p := s.plan()
		limits := s.limits(p, 2000)
		if s.below(2) == 0 {
			limits = s.limits(p, 1+s.below(60))
		}
		ops := s.ops(p, 150)
		b, ok := code.Encode(ops)
		if !ok {
			t.Fatal(ops)
		}
		l, err := tower.Run(p, limits, b)
		if err != api.OK {
			continue
		}
		j := judge.New(8 * p.Lines)
		for i, op := range ops {
			if !j.See(op, l[i]) {
				t.Fatalf("seed %d, step %d: a no to %v: %v", seed, i, op, l[i])
			}
		}
		if j.Worn() {
			worn++
		}
	}
	if worn < 20 || worn > 180 {
		t.Errorf("%d were worn", worn)
	}
}

// ops are operations on a heap, as it is when none wears out.
func (s *script) ops(p api.Plan, n int) []api.Op {
	var all []api.Op
	x, _ := tower.New(p, nil)
	for range n {
		w, _ := x.Heap().Words()
		l, _ := chain.Blocks(w)
		op := s.op(l)
		if op.Kind == api.OWrite || op.Kind == api.ORead || s.below(3) > 0 {
			x.Do(op)
			all = append(all, op)
		}
	}
	return all
}

// watch is a tower, and a model that goes along, through cuts and starts.
type watch struct {
	t     *testing.T
	x     *tower.Tower
	model *model.Model
	might []*model.Model // how all may be at the next start, if the power went in a call
	left  int            // spare ones, when it was there last
	spent api.Op         // the call in which it went,
	cost  int            // and its writes
	worn  bool           // ErrWorn was told since the last start
	told  map[api.Errno]int
}

func newWatch(t *testing.T, p api.Plan, limits []int, told map[api.Errno]int) *watch {
	t.Helper()
	x, err := tower.New(p, limits)
	if err == api.ErrWorn {
		return nil
	}
	if err != api.OK || x.Memory().Writes() > cost.Format(p) {
		t.Fatalf("%v: %d, %d writes", p, err, x.Memory().Writes())
	}
	return &watch{t: t, x: x, model: model.New(8 * p.Lines), left: x.Heap().Left(), told: told}
}

// do does an operation, and asks for all that the theorems say of it.
func (w *watch) do(op api.Op) {
	w.t.Helper()
	down := w.x.Memory().Down()
	worn := w.x.Heap().Worn()
	room := w.room(op)
	a := w.x.Do(op)
	w.told[a.Err]++
	switch {
	case op.Kind == api.OStart:
		w.started(a)
	case op.Kind == api.OCut:
		if !same(a, done) || w.x.Cost() != 0 {
			w.t.Fatalf("%v: %v, %d writes", op, a, w.x.Cost())
		}
	case down || w.x.Memory().Down():
		w.cut(op, a, down)
	default:
		if w.x.Cost() > cost.Op(op, w.left-w.x.Heap().Left()) {
			w.t.Fatalf("%v: %d writes, %d spare ones left of %d", op, w.x.Cost(), w.x.Heap().Left(), w.left)
		}
		w.left = w.x.Heap().Left()
		w.answered(op, a, worn, room)
	}
}

// changes tells how all may be behind an operation that is done: nothing, if it is to be refused, or changes nothing.
func (w *watch) changes(op api.Op) []*model.Model {
	y := w.model.Copy()
	err := api.ErrArg
	switch op.Kind {
	case api.OAlloc:
		var all []*model.Model
		for _, off := range w.model.Fits(op.N) {
			y := w.model.Copy()
			y.Alloc(op.N, off)
			all = append(all, y)
		}
		return all
	case api.OFree:
		err = y.Free(op.Off)
	case api.OWrite:
		if len(op.Data) > 0 {
			err = y.Write(op.Off, op.Data)
		}
	case api.ORoot:
		err = y.SetRoot(op.Off)
	}
	if err != api.OK {
		return nil
	}
	return []*model.Model{y}
}

// cut asks for what is told as the power goes, or is gone: T2, T4.
func (w *watch) cut(op api.Op, a api.Ans, down bool) {
	w.t.Helper()
	changes, writes := w.changes(op), w.x.Cost()
	switch {
	case !same(a, errno(api.ErrDown)) || w.x.Do(get).Err != api.ErrDown || down && writes != 0:
		w.t.Fatalf("%v without power: %v, %d writes", op, a, writes)
	case down:
		return
	case len(changes) == 0 || writes == 0:
		w.t.Fatalf("%v: the power went at one of %d writes, %d changes", op, writes, len(changes))
	}
	w.might = append(changes, w.model)
	w.spent, w.cost = op, writes
}

// started asks for a heap that is as it was, or as the call made it in which the power went: T2, T4.
func (w *watch) started(a api.Ans) {
	w.t.Helper()
	if !same(a, done) || w.x.Memory().Down() || w.x.Heap() == nil {
		w.t.Fatalf("a start: %v", a)
	}
	if w.x.Cost() > cost.Recover(w.left-w.x.Heap().Left()) {
		w.t.Fatalf("%d writes of a start, %d spare ones left of %d", w.x.Cost(), w.x.Heap().Left(), w.left)
	}
	if w.might != nil {
		if w.cost > cost.Op(w.spent, w.left-w.x.Heap().Left()) {
			w.t.Fatalf("%v: %d writes till it was cut, %d spare ones left of %d", w.spent, w.cost, w.x.Heap().Left(), w.left)
		}
		i := slices.IndexFunc(w.might, w.is)
		if i < 0 {
			w.t.Fatalf("%v was cut: all is neither as it was nor as it was to be", w.spent)
		}
		w.model, w.might = w.might[i], nil
	}
	w.left, w.worn = w.x.Heap().Left(), false
	if !w.is(w.model) {
		w.t.Fatal("behind a start all is not as it was")
	}
}

// room tells the smallest of the free blocks that are large enough for an OAlloc, counted: 0, if there is none.
func (w *watch) room(op api.Op) int {
	least := 0
	words, _ := w.x.Heap().Words()
	l, _ := chain.Blocks(words)
	for _, b := range l {
		if op.Kind == api.OAlloc && !b.Used && 8*b.Size >= op.N+8 && (least == 0 || b.Size < least) {
			least = b.Size
		}
	}
	return least
}

// answered asks for what is told with power: T1, T3.
func (w *watch) answered(op api.Op, a api.Ans, worn bool, room int) {
	w.t.Helper()
	changes := w.changes(op)
	full := op.Kind == api.OAlloc && fit.Need(op.N) > 0 && room == 0
	h := w.x.Heap()
	switch {
	case h.Worn() && h.Left() > 0, worn && !h.Worn():
		w.t.Fatalf("%v: worn %v, %d left", op, h.Worn(), h.Left())
	case worn && len(changes) > 0 || a.Err == api.ErrWorn:
		if !same(a, errno(api.ErrWorn)) || !h.Worn() || len(changes) == 0 && !full {
			w.t.Fatalf("%v on a worn heap: %v", op, a)
		}
		w.worn = true
	case full && !worn:
		if !same(a, errno(api.ErrSpace)) {
			w.t.Fatalf("%v without room: %v", op, a)
		}
	case op.Kind == api.OAlloc && len(changes) > 0:
		l := w.model.Blocks()
		if i := chain.At(l, a.Off/8-1); !w.model.Alloc(op.N, a.Off) || l[i].Size != room || !same(a, at(a.Off)) {
			w.t.Fatalf("%v: %v, the smallest has %d words", op, a, room)
		}
	case len(changes) > 0:
		if !same(a, done) {
			w.t.Fatalf("%v: %v", op, a)
		}
		w.model = changes[0]
	default:
		w.asked(op, a)
	}
	if !w.is(w.model) {
		w.t.Fatalf("behind %v: %v all is not as it should be", op, a)
	}
}

// asked asks for what is told of an operation that changes nothing.
func (w *watch) asked(op api.Op, a api.Ans) {
	w.t.Helper()
	want, y := errno(api.ErrArg), w.model.Copy()
	switch op.Kind {
	case api.ORead:
		want.Data, want.Err = y.Read(op.Off, op.N)
	case api.OGet:
		want = at(y.Root())
	case api.OFree:
		want.Err = y.Free(op.Off)
	case api.OWrite:
		want.Err = y.Write(op.Off, op.Data)
	}
	if !same(a, want) || w.x.Cost() != 0 {
		w.t.Fatalf("%v: %v, not %v; %d writes", op, a, want, w.x.Cost())
	}
}

// is tells whether the heap is as a model: its blocks, its root, and all bytes.
func (w *watch) is(y *model.Model) bool {
	words, err := w.x.Heap().Words()
	l, ok := chain.Blocks(words)
	if err != api.OK || !ok || !slices.Equal(l, y.Blocks()) || w.x.Heap().Do(get).Off != y.Root() {
		return false
	}
	for _, b := range l {
		for word := b.At + 1; b.Used && word < b.At+b.Size; word++ {
			is, _ := span.Read(words, 8*word, 8)
			if want, _ := y.Read(8*word, 8); !slices.Equal(is, want) {
				return false
			}
		}
	}
	return true
}

// start lets the power come; before, recoveries may be cut themselves.
func (w *watch) start(p api.Plan, cuts ...int) {
	w.t.Helper()
	m := w.x.Memory()
	for _, n := range cuts {
		m.Power()
		m.Cut(n, 0b1101)
		if h, err := heap.Open(m, p); (h != nil) != (err == api.OK) || m.Down() != (err == api.ErrDown) {
			w.t.Fatalf("a recovery cut at %d: %d", n, err)
		}
	}
	w.do(start)
	w.do(start) // recovered again it is the same
}

// P26.3, T1 to T4: long runs, with cuts, starts and lines that wear out.
func TestTheorems(t *testing.T) {
	told := map[api.Errno]int{}
	worn, anew := 0, 0
	for seed := range 400 {
		s := script(seed)
		s.below(2)
		p := s.plan()
		var limits []int
		if s.below(3) > 0 {
			limits = s.limits(p, []int{1, 20, 60, 400}[s.below(4)])
		}
		w := newWatch(t, p, limits, told)
		if w == nil {
			continue
		}
		cuts := seed%4 > 0
		for range 120 {
			switch {
			case w.x.Memory().Down() && s.below(2) == 0:
				w.start(p, s.below(5), s.below(9))
			case cuts && s.below(10) == 0:
				w.do(cut(s.below(70)-2, s.below(256)))
			case s.below(25) == 0:
				was := w.worn
				w.do(start)
				if was && !w.x.Heap().Worn() {
					anew++
				}
			default:
				w.do(s.op(w.model.Blocks()))
			}
			if w.worn {
				worn++
			}
		}
		w.start(p, s.below(5))
	}
	for _, err := range []api.Errno{api.OK, api.ErrArg, api.ErrDown, api.ErrWorn, api.ErrSpace, api.ErrState} {
		if told[err] < 100 {
			t.Errorf("%d was told %d times alone", err, told[err])
		}
	}
	if worn < 1000 || anew < 50 {
		t.Errorf("worn %d times, %d times no more", worn, anew)
	}
}

// P26.3, T2: a call is cut at each of its writes, and so is the recovery: behind it all is as it was, or as the call made it.
func TestWhole(t *testing.T) {
	p := api.Plan{Lines: 12, Spare: 3, Period: 3, Batch: 2}
	begin := []api.Op{alloc(90), alloc(200), alloc(20), write(112, 1, 2, 3, 4, 5), free(320), root(112)}
	calls := []api.Op{alloc(100), alloc(300), write(8, make([]byte, 90)...), write(114, 7, 8, 9, 10, 11, 12, 13), free(8), root(8), root(0)}
	told := map[api.Errno]int{}
	for seed := range 21 {
		s, op := script(seed), calls[seed%len(calls)]
		limits := forever(p)
		if seed >= len(calls) { // some lines last no longer than the call
			w := newWatch(t, p, limits, told)
			for _, op := range begin {
				w.do(op)
			}
			for range 12 {
				line := s.below(len(limits))
				limits[line] = w.x.Memory().Wear(line) + s.below(3)
			}
		}
		for n := 0; ; n++ {
			down := false
			for _, mask := range []int{0, 1, 0b1010, 0b11111110, 255} {
				w := newWatch(t, p, limits, told)
				for _, op := range begin {
					w.do(op)
				}
				w.do(cut(n, mask))
				w.do(op)
				down = w.x.Memory().Down()
				w.start(p, n%5, n%7, n%3)
			}
			if !down {
				break
			}
		}
	}
	if told[api.ErrDown] < 500 {
		t.Errorf("%d cuts", told[api.ErrDown])
	}
}

// P26.3, T3: in all blocks of two lines a block is taken of the smallest free one that is large enough, and refused just where none is.
func TestRoom(t *testing.T) {
	p := api.Plan{Lines: 2, Period: 1000, Batch: 1}
	told := map[api.Errno]int{}
	for which := range 1 << 8 {
		for n := range 16 {
			w := newWatch(t, p, nil, told)
			for range 8 {
				w.do(alloc(8))
			}
			for i := range 8 {
				if which>>i&1 == 1 {
					w.do(free(16*i + 8))
				}
			}
			w.do(alloc(8*n + n%3))
			w.do(start)
		}
	}
	if told[api.ErrSpace] < 500 {
		t.Errorf("refused %d times", told[api.ErrSpace])
	}
}

// lineWrites is how often lines were written, in all, and the one that was most.
func lineWrites(m *nvm.Memory) (sum, most int) {
	for line := range m.Lines() {
		sum += m.Wear(line)
		most = max(most, m.Wear(line))
	}
	return sum, most
}

// P26.3, T5: the gap moves once for so many writes of lines; each line goes on with it, so that none is written for ever.
func TestRound(t *testing.T) {
	for _, period := range []int{1, 2, 3, 10, 37} {
		p := api.Plan{Lines: 3, Spare: 2, Period: period, Batch: 5}
		n := logLines + p.Lines
		x := made(t, p)
		x.Do(alloc(30))
		x.Do(start) // Puts are counted from here on
		began, _ := lineWrites(x.Memory())
		moved := x.Heap().Moves()
		stands := make([]int, p.Lines)
		since := make([]int, p.Lines)
		for i := range 2000 {
			x.Do(write(8, byte(i)))
			sum, _ := lineWrites(x.Memory())
			moves := x.Heap().Moves()
			if puts := sum - began - (moves - moved); moves-moved != puts/period {
				t.Fatalf("period %d, step %d: %d moves, %d Puts", period, i, moves-moved, puts)
			}
			words, _ := x.Heap().Words()
			for line := range p.Lines {
				slot := gap.Slot(n, moves, logLines+line)
				if is, _ := x.Memory().Get(slot); !slices.Equal(is[:], words[8*line:8*line+8]) {
					t.Fatalf("period %d, step %d: line %d doesn't stand at %d", period, i, line, slot)
				}
				if slot != stands[line] {
					stands[line], since[line] = slot, moves
				}
				if moves-since[line] > n+1 {
					t.Fatalf("period %d, step %d: line %d stays at %d", period, i, line, slot)
				}
			}
		}
		// A line is written at most so often till it has moved on, and there are as many slots.
		if sum, most := lineWrites(x.Memory()); most > sum/(n+1)+2*period*(n+1) {
			t.Errorf("period %d: a line was written %d times of %d", period, most, sum)
		}
	}
}
