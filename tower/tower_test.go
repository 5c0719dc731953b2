package tower_test

import (
	"bytes"
	"math"
	"slices"
	"testing"

	"darning/api"
	"darning/chain"
	"darning/code"
	"darning/cost"
	"darning/heap"
	"darning/nvm"
	"darning/tower"
)

// These are the document's numbers, written anew.
const (
	logLines  = 16
	mostLines = 64
	mostSpare = 16
	mostBytes = 448
	mostHomes = 14
	mostMoves = 1 << 40
)

func alloc(n int) api.Op              { return api.Op{Kind: api.OAlloc, N: n} }
func free(off int) api.Op             { return api.Op{Kind: api.OFree, Off: off} }
func read(off, n int) api.Op          { return api.Op{Kind: api.ORead, Off: off, N: n} }
func write(off int, b ...byte) api.Op { return api.Op{Kind: api.OWrite, Off: off, Data: b} }
func root(off int) api.Op             { return api.Op{Kind: api.ORoot, Off: off} }
func cut(n, mask int) api.Op          { return api.Op{Kind: api.OCut, N: n, Mask: mask} }

var (
	get   = api.Op{Kind: api.OGet}
	start = api.Op{Kind: api.OStart}
)

func errno(err api.Errno) api.Ans { return api.Ans{Err: err} }
func at(off int) api.Ans          { return api.Ans{Off: off} }
func told(b ...byte) api.Ans      { return api.Ans{Data: b} }

var done api.Ans

func same(a, b api.Ans) bool {
	return a.Err == b.Err && a.Off == b.Off && bytes.Equal(a.Data, b.Data)
}

func sameAll(a, b []api.Ans) bool {
	return slices.EqualFunc(a, b, same)
}

// farNumbers are at the edges of an int, and those of which a smaller kind of number keeps one that may be.
func farNumbers() []int {
	all := []int{math.MinInt, math.MinInt + 1, math.MinInt + 8, math.MaxInt - 8, math.MaxInt - 1, math.MaxInt}
	for _, bit := range []int{8, 16, 31, 32, 33, 48, 62} {
		for _, d := range []int{-1, 0, 1, 8} {
			all = append(all, 1<<bit+d, -(1<<bit)+d)
		}
	}
	return all
}

// device is how many lines the memory of such a heap has.
func device(p api.Plan) int {
	return logLines + p.Lines + 1 + p.Spare
}

// forever are limits of a plan's lines, none of which wears out.
func forever(p api.Plan) []int {
	limits := make([]int, device(p))
	for i := range limits {
		limits[i] = -1
	}
	return limits
}

// made is a new tower.
func made(t *testing.T, p api.Plan, limits ...int) *tower.Tower {
	t.Helper()
	x, err := tower.New(p, limits)
	if x == nil || err != api.OK {
		t.Fatalf("%v: New: %d", p, err)
	}
	return x
}

// step is an operation, what it is to tell, and how many writes it is to have.
type step struct {
	op    api.Op
	want  api.Ans
	costs int
}

// walk asks a tower step by step.
func walk(t *testing.T, x *tower.Tower, steps ...step) {
	t.Helper()
	for i, s := range steps {
		if got := x.Do(s.op); !same(got, s.want) || x.Cost() != s.costs {
			t.Fatalf("step %d: %v: %v, %d writes, not %v, %d", i, s.op, got, x.Cost(), s.want, s.costs)
		}
	}
}

// held is all that a memory holds, and how often each line was written.
func held(t *testing.T, m *nvm.Memory) []uint64 {
	t.Helper()
	var all []uint64
	for line := range m.Lines() {
		l, err := m.Get(line)
		if err != api.OK {
			t.Fatal(err)
		}
		all = append(append(all, l[:]...), uint64(m.Wear(line)))
	}
	for i := range api.Regs {
		v, _ := m.Reg(i)
		all = append(all, v)
	}
	return all
}

// plans are the least one, the greatest one, and some between.
func plans() []api.Plan {
	return []api.Plan{
		{Lines: 1, Spare: 0, Period: 1, Batch: 1},
		{Lines: 1, Spare: 0, Period: 1000, Batch: 100},
		{Lines: mostLines, Spare: mostSpare, Period: 1000, Batch: 100},
		{Lines: mostLines, Spare: mostSpare, Period: 1, Batch: 1},
		{Lines: 4, Spare: 2, Period: 10, Batch: 5},
		{Lines: 5, Spare: 1, Period: 2, Batch: 2},
		{Lines: 13, Spare: 7, Period: 3, Batch: 1},
	}
}

// P26.1: a plan that may not be is ErrArg, whatever the limits are.
func TestNewOfPlans(t *testing.T) {
	var wrong []api.Plan
	for _, p := range plans() {
		for _, n := range append(farNumbers(), -1, 0, mostLines+1) {
			if n < 1 || n > mostLines {
				wrong = append(wrong, api.Plan{Lines: n, Spare: p.Spare, Period: p.Period, Batch: p.Batch})
			}
		}
		for _, n := range append(farNumbers(), -1, mostSpare+1) {
			if n < 0 || n > mostSpare {
				wrong = append(wrong, api.Plan{Lines: p.Lines, Spare: n, Period: p.Period, Batch: p.Batch})
			}
		}
		for _, n := range append(farNumbers(), -1, 0, 1001) {
			if n < 1 || n > 1000 {
				wrong = append(wrong, api.Plan{Lines: p.Lines, Spare: p.Spare, Period: n, Batch: p.Batch})
			}
		}
		for _, n := range append(farNumbers(), -1, 0, 101) {
			if n < 1 || n > 100 {
				wrong = append(wrong, api.Plan{Lines: p.Lines, Spare: p.Spare, Period: p.Period, Batch: n})
			}
		}
	}
	for _, p := range append(wrong, api.Plan{}) {
		for _, limits := range [][]int{nil, make([]int, 100)} {
			if x, err := tower.New(p, limits); x != nil || err != api.ErrArg {
				t.Fatalf("%v: %v, %d", p, x != nil, err)
			}
			if l, err := tower.Run(p, limits, []byte{1, 8, 0, 0}); l != nil || err != api.ErrArg {
				t.Fatalf("%v: Run: %v, %d", p, l, err)
			}
		}
	}
}

// P26.1: New makes what the calls that it names make.
func TestNewIsFormatAndOpen(t *testing.T) {
	for _, p := range plans() {
		x := made(t, p)
		m := nvm.New(device(p), nil)
		if err := heap.Format(m, p); err != api.OK {
			t.Fatal(p, err)
		}
		heap.Open(m, p)
		if x.Memory().Lines() != device(p) || x.Memory().Writes() != m.Writes() || !slices.Equal(held(t, x.Memory()), held(t, m)) {
			t.Errorf("%v: the memory is another one", p)
		}
		if x.Memory().Writes() > cost.Format(p) || x.Cost() != 0 || x.Memory().Down() {
			t.Errorf("%v: %d writes, cost %d", p, x.Memory().Writes(), x.Cost())
		}
		w, err := x.Heap().Words()
		l, _ := chain.Blocks(w)
		if err != api.OK || !slices.Equal(l, []api.Block{{At: 0, Size: 8 * p.Lines}}) || x.Heap().Left() != p.Spare || x.Heap().Worn() {
			t.Errorf("%v: %v, %d left", p, l, x.Heap().Left())
		}
		walk(t, x, step{get, at(0), 0})
	}
}

// P26.1: the lines last for as many writes as the limits say.
func TestNewOfLimits(t *testing.T) {
	p := api.Plan{Lines: 2, Spare: 2, Period: 1000, Batch: 100}
	first := func(n ...int) []int { // of the heap's first line, and of the spare ones behind the gap's
		limits := forever(p)
		limits[logLines] = n[0]
		copy(limits[logLines+3:], n[1:])
		return limits
	}
	for i, c := range []struct {
		limits []int
		err    api.Errno
		left   int
	}{
		{nil, api.OK, 2},
		{[]int{0}, api.OK, 2}, // a Format writes none of the log
		{make([]int, logLines), api.OK, 2},
		{make([]int, logLines+1), api.OK, 1},
		{make([]int, device(p)-1), api.OK, 0}, // it lacks the last one: that lasts for ever
		{make([]int, device(p)), api.ErrWorn, 0},
		{make([]int, 1000), api.ErrWorn, 0},
		{first(0), api.OK, 1},
		{first(0, 0), api.OK, 0},
		{first(0, 0, 1), api.OK, 0},
		{first(0, 0, 0), api.ErrWorn, 0},
		{append(first(1), 0, 0, 0), api.OK, 2}, // there are no more lines
		{first(math.MinInt, 0, 0), api.OK, 2},
		{first(math.MaxInt, 0, 0), api.OK, 2},
	} {
		was := slices.Clone(c.limits)
		x, err := tower.New(p, c.limits)
		if err != c.err || (x == nil) != (err != api.OK) || x.Heap().Left() != c.left || x.Cost() != 0 {
			t.Errorf("%d: %d, %d left", i, err, x.Heap().Left())
		}
		if l, err := tower.Run(p, c.limits, []byte{6, 0, 0, 0}); err != c.err || len(l) != map[bool]int{true: 1}[err == api.OK] {
			t.Errorf("%d: Run: %v, %d", i, l, err)
		}
		if !slices.Equal(c.limits, was) {
			t.Errorf("%d: the limits were changed", i)
		}
	}
}

// R2: limits are not kept.
func TestLimitsAreNotKept(t *testing.T) {
	p := api.Plan{Lines: 2, Spare: 1, Period: 1000, Batch: 100}
	limits := forever(p)
	limits[0] = 2
	x := made(t, p, limits...)
	clear(limits)
	walk(t, x,
		step{alloc(8), at(8), 5},
		step{write(8, 1), done, 5},
		step{write(8, 2), done, 7}, // line 0 is worn: the spare one, and the table's register
		step{read(8, 1), told(2), 0})
	if x.Heap().Left() != 0 {
		t.Error(x.Heap().Left())
	}
}

// P26.1: each kind of operation, the document's example among them, and how many writes it has.
func TestDoByHand(t *testing.T) {
	x := made(t, api.Plan{Lines: 4, Spare: 1, Period: 1000, Batch: 100})
	walk(t, x,
		step{alloc(8), at(8), 5}, // the index, the line, the commit, the line itself, done
		step{alloc(100), at(24), 9},
		step{alloc(0), errno(api.ErrArg), 0},
		step{alloc(200), errno(api.ErrSpace), 0},
		step{write(24, 5, 6, 7), done, 5},
		step{write(60, 1, 2, 3, 4, 5, 6), done, 7},
		step{write(24), done, 0},
		step{write(16, 1), errno(api.ErrArg), 0},
		step{read(23, 2), errno(api.ErrArg), 0},
		step{read(24, 4), told(5, 6, 7, 0), 0},
		step{read(60, 6), told(1, 2, 3, 4, 5, 6), 0},
		step{get, at(0), 0},
		step{root(24), done, 1},
		step{root(16), errno(api.ErrArg), 0},
		step{get, at(24), 0},
		step{free(24), errno(api.ErrState), 0},
		step{free(8), done, 5},
		step{free(8), errno(api.ErrArg), 0},
		step{api.Op{}, errno(api.ErrArg), 0},
		step{api.Op{Kind: 9}, errno(api.ErrArg), 0},
		step{api.Op{Kind: -1}, errno(api.ErrArg), 0},
		step{api.Op{Kind: math.MinInt}, errno(api.ErrArg), 0},
		step{api.Op{Kind: 1<<32 + api.OStart}, errno(api.ErrArg), 0},
		step{start, done, 0},
		step{get, at(24), 0},
		step{read(24, 3), told(5, 6, 7), 0})
}

// P26.1: of pages that are kept at each write, and a gap that moves at each Put, the cost has these writes, too.
func TestCostOfAllThatIsWritten(t *testing.T) {
	walk(t, made(t, api.Plan{Lines: 2, Spare: 0, Period: 1000, Batch: 1}),
		step{alloc(8), at(8), 6},
		step{root(8), done, 1},
		step{get, at(8), 0},
		step{write(8, 1), done, 6})
	walk(t, made(t, api.Plan{Lines: 2, Spare: 0, Period: 1, Batch: 100}),
		step{alloc(8), at(8), 11}, // three Puts, each with a move: a Put more, and a register
		step{get, at(0), 0},
		step{free(8), done, 11})
}

// P26.1: the power goes at the N-th write from an OCut on; a later one replaces it.
func TestCut(t *testing.T) {
	p := api.Plan{Lines: 2, Spare: 0, Period: 1000, Batch: 100}
	for n := range 8 {
		for _, mask := range []int{0, 1, 255, -1, math.MinInt, math.MaxInt} {
			x := made(t, p)
			walk(t, x, step{alloc(8), at(8), 5}, step{cut(n, mask), done, 0})
			if n >= 5 {
				walk(t, x, step{write(8, 7), done, 5}, step{read(8, 1), told(7), 0})
				continue
			}
			walk(t, x,
				step{write(8, 7), errno(api.ErrDown), n + 1},
				step{read(8, 1), errno(api.ErrDown), 0},
				step{get, errno(api.ErrDown), 0},
				step{root(8), errno(api.ErrDown), 0},
				step{free(8), errno(api.ErrDown), 0},
				step{alloc(8), errno(api.ErrDown), 0},
				step{alloc(0), errno(api.ErrDown), 0},
				step{write(8), errno(api.ErrDown), 0},
				step{api.Op{}, errno(api.ErrArg), 0}, // the heap tells that ahead of all else
				step{cut(0, 0), done, 0})             // no longer, as the power comes
			if !x.Memory().Down() || x.Heap() == nil {
				t.Fatal("there is power, or no heap")
			}
			// The register of the third write commits, if bit 0 is 1; the line and the register behind it are done anew.
			committed := n > 2 || n == 2 && mask&1 == 1
			again := map[bool]int{true: 2}[committed && (n < 4 || mask&1 == 0)]
			is := map[bool]byte{true: 7}[committed]
			walk(t, x, step{start, done, again}, step{read(8, 1), told(is), 0}, step{write(8, 9), done, 5}, step{read(8, 1), told(9), 0})
		}
	}
}

// P26.1: an N below 0 is never, and one that is not reached does nothing.
func TestCutNever(t *testing.T) {
	x := made(t, api.Plan{Lines: 2, Spare: 0, Period: 1000, Batch: 100})
	walk(t, x, step{alloc(8), at(8), 5})
	for _, n := range append(farNumbers(), -1, 5) {
		if n >= 0 && n < 5 {
			continue
		}
		walk(t, x, step{cut(0, 0), done, 0}, step{cut(n, 0), done, 0}, step{write(8, byte(n)), done, 5}, step{start, done, 0})
	}
	// Reads have no writes: it comes at the next one that has.
	walk(t, x, step{cut(0, 1), done, 0}, step{get, at(0), 0}, step{read(8, 1), told(5), 0}, step{write(8), done, 0}, step{free(9), errno(api.ErrArg), 0}, step{root(8), errno(api.ErrDown), 1}, step{start, done, 0}, step{get, at(8), 0})
	walk(t, x, step{cut(0, 254), done, 0}, step{root(0), errno(api.ErrDown), 1}, step{start, done, 0}, step{get, at(8), 0})
	walk(t, x, step{cut(3, 0), done, 0}, step{cut(0, 0), done, 0}, step{root(0), errno(api.ErrDown), 1}, step{start, done, 0})
	walk(t, x, step{cut(0, 0), done, 0}, step{cut(1, 0), done, 0}, step{root(0), done, 1}, step{root(8), errno(api.ErrDown), 1}, step{start, done, 0}, step{get, at(0), 0})
}

// P26.1: a start opens the heap anew, where the power was there, too: a Cut is over, what is not in the memory is gone.
func TestStart(t *testing.T) {
	p := api.Plan{Lines: 2, Spare: 0, Period: 3, Batch: 2}
	x := made(t, p)
	walk(t, x, step{alloc(8), at(8), 7}) // its third Put: the gap moves
	before := x.Heap()
	if !slices.Equal(before.Counts(), []int{1}) || before.Moves() != 1 {
		t.Fatal(before.Counts(), before.Moves())
	}
	walk(t, x, step{cut(0, 0), done, 0}, step{start, done, 0})
	if x.Heap() == nil || x.Heap() == before || !slices.Equal(x.Heap().Counts(), []int{0}) || x.Heap().Moves() != 1 {
		t.Error(x.Heap().Counts(), x.Heap().Moves())
	}
	walk(t, x, step{write(8, 1), done, 7}, step{write(8, 2), done, 8}, step{start, done, 0})
	if !slices.Equal(x.Heap().Counts(), []int{2}) || x.Heap().Moves() != 3 {
		t.Error(x.Heap().Counts(), x.Heap().Moves())
	}
	// Puts are counted anew from a start on: by two each, the third one never comes.
	x = made(t, api.Plan{Lines: 2, Spare: 0, Period: 4, Batch: 100})
	for range 9 {
		walk(t, x, step{cut(2, 0), done, 0}, step{alloc(8), errno(api.ErrDown), 3}, step{start, done, 0})
	}
	if x.Heap().Moves() != 0 {
		t.Error(x.Heap().Moves())
	}
}

// P26.1: a heap that is worn is asked anew from a start on, and stays as it was.
func TestStartOfWorn(t *testing.T) {
	p := api.Plan{Lines: 2, Spare: 0, Period: 1000, Batch: 100}
	limits := forever(p)
	limits[0] = 2
	x := made(t, p, limits...)
	walk(t, x,
		step{alloc(8), at(8), 5},
		step{root(8), done, 1},
		step{write(8, 1), done, 5},
		step{write(8, 2), errno(api.ErrWorn), 1},
		step{root(0), errno(api.ErrWorn), 0},
		step{read(8, 1), told(1), 0},
		step{start, done, 0},
		step{root(0), done, 1},
		step{free(8), errno(api.ErrWorn), 1},
		step{alloc(8), errno(api.ErrWorn), 0},
		step{write(8), done, 0},
		step{start, done, 0},
		step{read(8, 1), told(1), 0},
		step{get, at(0), 0})
	// The heap's own line is worn: what was committed stays Pending, and is told.
	limits = forever(p)
	limits[logLines] = 2
	x = made(t, p, limits...)
	walk(t, x,
		step{alloc(8), at(8), 5},
		step{write(8, 1), done, 4},
		step{write(8, 2), errno(api.ErrWorn), 0},
		step{read(8, 1), told(1), 0},
		step{start, done, 1}, // it is tried again
		step{read(8, 1), told(1), 0},
		step{root(8), errno(api.ErrWorn), 0},
		step{start, done, 1})
}

// kinds are all kinds of operations that are nothing to the power, and some that are none.
func kinds() []api.Op {
	return []api.Op{alloc(8), alloc(0), free(8), read(8, 1), read(-1, -1), write(8, 1), write(8), root(8), root(0), get, {}, {Kind: 9}, {Kind: -1}, {Kind: math.MaxInt}, {Kind: math.MinInt}}
}

// none asks for a tower that has a memory, and no heap.
func none(t *testing.T, x *tower.Tower) {
	t.Helper()
	if x.Heap() != nil || x.Memory() == nil {
		t.Fatal("there is a heap, or no memory")
	}
	for _, op := range kinds() {
		walk(t, x, step{op, errno(api.ErrState), 0})
	}
}

// P26.1: where a start finds no heap, all but OCut and OStart tell ErrState, till one does.
func TestNoHeap(t *testing.T) {
	p := api.Plan{Lines: 2, Spare: 1, Period: 1000, Batch: 100}
	for i, c := range []struct {
		reg         int
		wrong, mend uint64
	}{
		{api.RRoot, 77, 0},
		{api.RRoot, 40, 8}, // a free block's
		{api.RRoot, math.MaxUint64, 0},
		{api.RMoves, mostMoves + 1, 0},
		{api.RMoves, 2, 0}, // then other lines are the heap's
		{api.RCommit, mostHomes + 1, 0},
		{api.RCommit, math.MaxUint64, 0},
		{api.RTable, 100, 0},
	} {
		x := made(t, p)
		walk(t, x, step{alloc(8), at(8), 5}, step{root(8), done, 1})
		x.Memory().Set(c.reg, c.wrong)
		for range 2 {
			walk(t, x, step{start, errno(api.ErrForm), 0})
			none(t, x)
		}
		walk(t, x, step{cut(0, 0), done, 0})
		none(t, x)
		if x.Memory().Set(c.reg, c.mend) != api.ErrDown || !x.Memory().Down() {
			t.Fatalf("%d: the power didn't go", i)
		}
		none(t, x) // also without power
		walk(t, x, step{start, errno(api.ErrForm), 0})
		none(t, x)
		x.Memory().Set(c.reg, c.mend)
		none(t, x) // till it is started
		walk(t, x, step{start, done, 0}, step{read(8, 1), told(0), 0})
		if x.Heap() == nil {
			t.Errorf("%d: no heap", i)
		}
	}
}

// P26.1: so it is of words that are no blocks; and what a recovery did is in the cost, also where there is no heap behind it.
func TestNoHeapOfWords(t *testing.T) {
	x := made(t, api.Plan{Lines: 2, Spare: 1, Period: 1000, Batch: 100})
	m := x.Memory()
	walk(t, x, step{alloc(8), at(8), 5}, step{cut(3, 0), done, 0}, step{write(8, 1), errno(api.ErrDown), 4})
	m.Power()
	m.Set(api.RRoot, 9)
	walk(t, x, step{start, errno(api.ErrForm), 2})
	none(t, x)
	walk(t, x, step{start, errno(api.ErrForm), 0})
	m.Set(api.RRoot, 8)
	walk(t, x, step{start, done, 0}, step{read(8, 1), told(1), 0})
	l, _ := m.Get(logLines)
	m.Put(logLines, api.Line{3})
	walk(t, x, step{start, errno(api.ErrForm), 0})
	none(t, x)
	m.Put(logLines, l)
	walk(t, x, step{start, done, 0}, step{get, at(8), 0}, step{read(8, 1), told(1), 0})
}

// P26.1: memory and heap are those that Do works on; what is written past it is of no Do.
func TestAsTheyAre(t *testing.T) {
	x := made(t, api.Plan{Lines: 2, Spare: 1, Period: 1000, Batch: 100})
	m, h := x.Memory(), x.Heap()
	if a := h.Do(alloc(8)); a.Off != 8 || x.Cost() != 0 {
		t.Error(a, x.Cost())
	}
	walk(t, x, step{root(8), done, 1})
	if a := h.Do(get); a.Off != 8 {
		t.Error(a)
	}
	h.Do(write(8, 3))
	m.Set(api.RCount, 9)
	if x.Cost() != 1 {
		t.Error(x.Cost())
	}
	walk(t, x, step{read(8, 1), told(3), 0})
	if x.Memory() != m || x.Heap() != h {
		t.Error("they are others now")
	}
	m.Cut(0, 0)
	walk(t, x, step{free(8), errno(api.ErrState), 0}, step{root(0), errno(api.ErrDown), 1})
	m.Power()
	walk(t, x, step{root(0), done, 1}, step{start, done, 0})
	if x.Memory() != m || x.Heap() == h || !slices.Equal(x.Heap().Counts(), []int{9}) {
		t.Error("a start has another memory, or the old heap")
	}
}

// P26.1, R3: a nil tower, and one that New has not made.
func TestNil(t *testing.T) {
	for what, x := range map[string]*tower.Tower{"nil": nil, "new": new(tower.Tower)} {
		for _, op := range append(kinds(), start, cut(0, 0), cut(-1, 255)) {
			if a := x.Do(op); !same(a, errno(api.ErrArg)) {
				t.Errorf("%s: %v: %v", what, op, a)
			}
			if x.Heap() != nil || x.Memory() != nil || x.Cost() != 0 {
				t.Errorf("%s: %v: not nothing", what, op)
			}
		}
	}
}

// R2: bytes that are handed in are neither changed nor kept, nor is what lies behind them; those that are told are the caller's own.
func TestOwnMemory(t *testing.T) {
	x := made(t, api.Plan{Lines: 2, Spare: 1, Period: 1000, Batch: 100})
	walk(t, x, step{alloc(8), at(8), 5})
	all := []byte{1, 2, 3, 4}
	walk(t, x, step{write(8, all[:2]...), done, 5})
	if !slices.Equal(all, []byte{1, 2, 3, 4}) {
		t.Error(all)
	}
	clear(all)
	a, b := x.Do(read(8, 4)), x.Do(read(8, 4))
	clear(a.Data)
	if !same(b, told(1, 2, 0, 0)) || !same(x.Do(read(8, 4)), b) {
		t.Error(b)
	}
	_ = append(b.Data, 9)
	walk(t, x, step{read(8, 5), told(1, 2, 0, 0, 0), 0})
}

// P26.2: scripts written out, the document's example among them.
func TestRunByHand(t *testing.T) {
	p := api.Plan{Lines: 4, Spare: 1, Period: 2, Batch: 2}
	for i, c := range []struct {
		script []byte
		want   []api.Ans
	}{
		{nil, nil},
		{[]byte{}, nil},
		{[]byte{1, 8, 0}, nil},
		{[]byte{0, 8, 0, 0, 9, 8, 0, 0, 255, 8, 0, 0}, nil},
		{[]byte{1, 8, 0, 0}, []api.Ans{at(8)}},
		{[]byte{1, 8, 0, 0, 1}, []api.Ans{at(8)}},
		{[]byte{1, 8, 0, 0, 1, 8, 0, 0}, []api.Ans{at(8), at(24)}},
		{[]byte{0, 0, 0, 0, 1, 8, 0, 0, 9, 9, 9, 9, 6, 0, 0, 0}, []api.Ans{at(8), at(0)}},
		{[]byte{1, 0, 1, 0, 1, 0xF8, 0, 0}, []api.Ans{errno(api.ErrSpace), at(8)}},
		{[]byte{1, 8, 0, 0, 4, 8, 0, 9, 7, 6}, []api.Ans{at(8), done}}, // of nine bytes two are left
		{[]byte{1, 8, 0, 0, 4, 8, 0, 2, 7, 6, 3, 7, 0, 1, 3, 8, 0, 3}, []api.Ans{at(8), done, errno(api.ErrArg), told(7, 6, 0)}},
		{[]byte{1, 8, 0, 0, 5, 8, 0, 0, 2, 8, 0, 0, 5, 0, 0, 0, 2, 8, 0, 0, 2, 8, 0, 0}, []api.Ans{at(8), done, errno(api.ErrState), done, done, errno(api.ErrArg)}},
		{[]byte{7, 0, 0, 0, 1, 8, 0, 0, 6, 0, 0, 0, 8, 0, 0, 0, 1, 8, 0, 0}, []api.Ans{done, errno(api.ErrDown), errno(api.ErrDown), done, at(8)}},
		{[]byte{7, 0, 1, 0, 8, 0, 0, 0, 8, 0, 0, 0}, []api.Ans{done, done, done}},
	} {
		was := slices.Clone(c.script)
		if l, err := tower.Run(p, nil, c.script); err != api.OK || !sameAll(l, c.want) {
			t.Errorf("%d: %v, %d", i, l, err)
		}
		if !slices.Equal(c.script, was) {
			t.Errorf("%d: the script was changed", i)
		}
	}
}

// P26.2: a script that cuts a write at each of its writes tells the old byte, or the new one, and the new one from its commit on.
func TestRunOfCuts(t *testing.T) {
	p := api.Plan{Lines: 1, Spare: 0, Period: 1000, Batch: 100}
	for n := range 8 {
		for mask := range 256 {
			script := []byte{1, 8, 0, 0, 4, 8, 0, 1, 5, 7, byte(n), 0, byte(mask), 4, 8, 0, 1, 6, 8, 0, 0, 0, 3, 8, 0, 1}
			l, err := tower.Run(p, nil, script)
			now, told6 := errno(api.ErrDown), told(5)
			if n > 4 {
				now = done
			}
			if n > 2 || n == 2 && mask&1 == 1 {
				told6 = told(6)
			}
			if want := []api.Ans{at(8), done, done, now, done, told6}; err != api.OK || !sameAll(l, want) {
				t.Fatalf("cut at %d, mask %d: %v, not %v", n, mask, l, want)
			}
		}
	}
}

// R2, R6: the lists of one answer share no memory, a script is not kept, and its answers hang on it alone.
func TestRunOwnMemory(t *testing.T) {
	p := api.Plan{Lines: 4, Spare: 1, Period: 2, Batch: 2}
	script, _ := code.Encode([]api.Op{alloc(16), write(8, 1, 2, 3), read(8, 3), read(8, 3), read(8, 4)})
	behind := append(slices.Clone(script), 6, 0, 0, 0)
	l, _ := tower.Run(p, nil, behind[:len(script)])
	clear(behind)
	again, _ := tower.Run(p, nil, script)
	want := []api.Ans{at(8), done, told(1, 2, 3), told(1, 2, 3), told(1, 2, 3, 0)}
	if !sameAll(l, want) || !sameAll(again, want) {
		t.Fatal(l, again)
	}
	clear(l[2].Data)
	_ = append(l[3].Data, 9, 9, 9, 9)
	if !sameAll(l[3:], want[3:]) || !sameAll(again, want) {
		t.Error(l, again)
	}
}
