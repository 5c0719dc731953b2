package judge_test

import (
	"bytes"
	"fmt"
	"slices"
	"testing"

	"darning/api"
	"darning/heap"
	"darning/judge"
	"darning/nvm"
	"darning/plan"
)

// mirror is a judge made otherwise: of each word it keeps at which byte the used block that it is in begins, 0 where it is free; and all bytes.
type mirror struct {
	of    []int
	bytes []byte
	root  int
	worn  bool
}

func newMirror(words int) *mirror {
	return &mirror{of: make([]int, words), bytes: make([]byte, 8*words)}
}

func (x *mirror) copy() *mirror {
	return &mirror{of: slices.Clone(x.of), bytes: slices.Clone(x.bytes), root: x.root, worn: x.worn}
}

// size is how many words, from one on, are of one block, or are free.
func (x *mirror) size(word int) int {
	n := 1
	for word+n < len(x.of) && x.of[word+n] == x.of[word] {
		n++
	}
	return n
}

func (x *mirror) blocks() []api.Block {
	var l []api.Block
	for word := 0; word < len(x.of); word += x.size(word) {
		l = append(l, api.Block{At: word, Size: x.size(word), Used: x.of[word] != 0})
	}
	return l
}

func (x *mirror) used() []int {
	var offs []int
	for word, off := range x.of {
		if off == 8*word+8 {
			offs = append(offs, off)
		}
	}
	return offs
}

// words is how many words so many bytes need, counted.
func words(n int) int {
	need := 1
	for from := 0; from < n; from += 8 {
		need++
	}
	return need
}

// fits tells where so many bytes may be taken: in the smallest of the free blocks that are large enough.
func (x *mirror) fits(n int) []int {
	for size := words(n); size <= len(x.of); size++ {
		var offs []int
		for _, b := range x.blocks() {
			if !b.Used && b.Size == size {
				offs = append(offs, 8*b.At+8)
			}
		}
		if len(offs) > 0 {
			return offs
		}
	}
	return nil
}

func (x *mirror) take(n, off int) {
	word := off/8 - 1
	size, need := x.size(word), words(n)
	if size < need+2 {
		need = size
	}
	for i := range need {
		x.of[word+i] = off
		clear(x.bytes[8*(word+i) : 8*(word+i)+8])
	}
}

// owner is where the used block begins behind whose header a byte is; 0: there is none.
func (x *mirror) owner(off int) int {
	if off < 0 || off >= len(x.bytes) || off < x.of[off/8] {
		return 0
	}
	return x.of[off/8]
}

// holds tells whether so many bytes are one used block's, byte by byte.
func (x *mirror) holds(off, n int) bool {
	if n < 0 || n > mostBytes {
		return false
	}
	if n == 0 {
		return x.owner(off) != 0 || off > 0 && x.owner(off-1) != 0
	}
	for i := range n {
		if x.owner(off+i) == 0 || x.owner(off+i) != x.owner(off) {
			return false
		}
	}
	return true
}

// does tells what a heap that isn't worn would tell of what changes it, and does it.
func (x *mirror) does(op api.Op) api.Errno {
	begins := slices.Contains(x.used(), op.Off)
	switch {
	case op.Kind == api.OWrite && x.holds(op.Off, len(op.Data)):
		copy(x.bytes[op.Off:], op.Data)
	case op.Kind == api.OFree && begins && op.Off == x.root:
		return api.ErrState
	case op.Kind == api.OFree && begins:
		for word := range x.of {
			if x.of[word] == op.Off {
				x.of[word] = 0
			}
		}
	case op.Kind == api.ORoot && (begins || op.Off == 0):
		x.root = op.Off
	default:
		return api.ErrArg
	}
	return api.OK
}

// see tells whether that may be told, by the chapter's sentences, and how all is then.
func (x *mirror) see(op api.Op, a api.Ans) (*mirror, bool) {
	plain := a.Off == 0 && len(a.Data) == 0
	switch op.Kind {
	case api.OAlloc:
		return x.seeAlloc(op.N, a, plain)
	case api.OFree, api.OWrite, api.ORoot:
		return x.seeChange(op, a, plain)
	case api.ORead:
		if !x.holds(op.Off, op.N) {
			return x, plain && a.Err == api.ErrArg
		}
		return x, a.Err == api.OK && a.Off == 0 && bytes.Equal(a.Data, x.read(op.Off, op.N))
	case api.OGet:
		return x, a.Err == api.OK && a.Off == x.root && len(a.Data) == 0
	}
	return x, plain && a.Err == api.ErrArg
}

func (x *mirror) seeAlloc(n int, a api.Ans, plain bool) (*mirror, bool) {
	switch {
	case n < 1 || n > mostBytes:
		return x, plain && a.Err == api.ErrArg
	case plain && a.Err == api.ErrWorn:
		return x.wears(), true
	case x.worn:
		return x, false
	case plain && a.Err == api.ErrSpace:
		return x, len(x.fits(n)) == 0
	case a.Err == api.OK && len(a.Data) == 0 && slices.Contains(x.fits(n), a.Off):
		next := x.copy()
		next.take(n, a.Off)
		return next, true
	}
	return x, false
}

func (x *mirror) seeChange(op api.Op, a api.Ans, plain bool) (*mirror, bool) {
	next := x.copy()
	err := next.does(op)
	nothing := op.Kind == api.OWrite && len(op.Data) == 0
	switch {
	case !plain:
		return x, false
	case err != api.OK || nothing:
		return x, a.Err == err
	case a.Err == api.ErrWorn:
		return x.wears(), true
	}
	return next, a.Err == api.OK && !x.worn
}

// wears is the mirror as it is, but worn.
func (x *mirror) wears() *mirror {
	next := x.copy()
	next.worn = true
	return next
}

func (x *mirror) read(off, n int) []byte {
	return slices.Clone(x.bytes[off : off+n])
}

// sees tells whether a judge is where the mirror is: its blocks, its root, and whether it is worn; and all bytes of used blocks.
func (x *mirror) sees(j *judge.Judge) bool {
	if !slices.Equal(j.Blocks(), x.blocks()) || j.Root() != x.root || j.Worn() != x.worn {
		return false
	}
	for _, off := range x.used() {
		end := off + 8*x.size(off/8-1) - 8
		for from := off; from < end; from += mostBytes {
			n := min(mostBytes, end-from)
			if !j.See(read(from, n), told(x.read(from, n)...)) {
				return false
			}
		}
	}
	return true
}

// event is an operation, and what is told of it.
type event struct {
	op api.Op
	a  api.Ans
}

// smallOps are what may be done on a heap of one line, and what may not. What is written, but for noughts, is one byte at a block's begin, so that there aren't too many heaps.
func (x *mirror) smallOps() []api.Op {
	all := []api.Op{get, {Kind: api.OStart}, {Kind: api.OCut, N: 8}, {}}
	for _, n := range []int{-1, 0, 1, 8, 9, 16, 17, 24, 40, 41, 48, 56, 57, 448, 449} {
		all = append(all, alloc(n))
	}
	for off := -8; off <= 72; off += 4 {
		all = append(all, free(off), root(off), read(off, 0), read(off, 8), read(off, 24), write(off), write(off+1, 0))
	}
	for _, off := range x.used() {
		all = append(all, write(off, 5))
	}
	return all
}

// answers are what might be told, the right ones among them, and what lies near.
func (x *mirror) answers(op api.Op) []api.Ans {
	var all []api.Ans
	for err := api.Errno(-1); err <= 7; err++ {
		all = append(all, errno(err), api.Ans{Err: err, Off: 8}, api.Ans{Err: err, Data: []byte{0}}, api.Ans{Err: err, Data: []byte{}})
	}
	for off := -8; off <= 72; off += 4 {
		all = append(all, at(off))
	}
	if op.Kind == api.ORead && x.holds(op.Off, op.N) && op.N > 0 {
		right := x.read(op.Off, op.N)
		all = append(all, told(right...), told(right[1:]...), told(append(slices.Clone(right), 0)...), api.Ans{Off: 8, Data: right}, api.Ans{Err: api.ErrArg, Data: right})
		for i := range right {
			wrong := slices.Clone(right)
			wrong[i] ^= 4
			all = append(all, told(wrong...))
		}
	}
	return all
}

// P25.1, P25.2: all that may be told, and may not, in all heaps of one line that there may be, each block's first byte one of two.
func TestAllSmallHeaps(t *testing.T) {
	type place struct {
		x    *mirror
		path []event
	}
	key := func(x *mirror) string {
		text := fmt.Sprint(x.of, x.root, x.worn)
		for _, off := range x.used() {
			text += fmt.Sprint(" ", x.bytes[off])
		}
		return text
	}
	reach := func(path []event) *judge.Judge {
		j := judge.New(leastWords)
		for _, e := range path {
			if !j.See(e.op, e.a) {
				t.Fatalf("%v: no to %v", path, e)
			}
		}
		return j
	}
	start := newMirror(leastWords)
	seen := map[string]int{key(start): 1}
	work := []place{{start, nil}}
	for ; len(work) > 0; work = work[1:] {
		p := work[0]
		j := reach(p.path)
		for _, op := range p.x.smallOps() {
			for _, a := range p.x.answers(op) {
				next, may := p.x.see(op, a)
				if !may || key(next) == key(p.x) {
					if j.See(op, a) != may {
						t.Fatalf("%v: %v, told %v: %v", p.path, op, a, !may)
					}
					continue
				}
				path := append(slices.Clone(p.path), event{op, a})
				if !next.sees(reach(path)) {
					t.Fatalf("%v: not as it should be", path)
				}
				if seen[key(next)] == 0 {
					seen[key(next)] = 1
					work = append(work, place{next, path})
				}
			}
			if !p.x.sees(j) {
				t.Fatalf("%v: %v changed what it may not", p.path, op)
			}
		}
	}
	if len(seen) < 300 {
		t.Errorf("%d heaps alone", len(seen))
	}
}

// script is numbers that are the same in each run.
type script uint64

func (s *script) below(n int) int {
	*s = *s*6364136223846793005 + 1442695040888963407
	return int(uint64(*s) >> 33 % uint64(n))
}

func (s *script) bytes(n int) []byte {
	b := make([]byte, n)
	for i := range b {
		b[i] = byte(1 + s.below(255))
	}
	return b
}

// op is an operation on such a heap: most times one that may be.
func (s *script) op(x *mirror) api.Op {
	off := 8
	if offs := x.used(); len(offs) > 0 {
		off = offs[s.below(len(offs))]
	}
	if s.below(12) == 0 {
		off += s.below(40) - 20
	}
	switch s.below(13) {
	case 0, 1, 2:
		return alloc(s.below(70) + 1)
	case 3:
		return alloc(s.below(460) - 3)
	case 4, 5, 6:
		return free(off)
	case 7:
		return root(off * s.below(2))
	case 8:
		return get
	case 9:
		return read(off, s.below(60))
	case 10:
		return api.Op{Kind: s.below(11) - 1, Off: off, N: s.below(60)}
	}
	return write(off+s.below(8), s.bytes(s.below(70))...)
}

// right is what a heap would tell that is not worn, and takes any block that fits.
func (s *script) right(x *mirror, op api.Op) api.Ans {
	switch op.Kind {
	case api.OAlloc:
		fits := x.fits(op.N)
		switch {
		case op.N < 1 || op.N > mostBytes:
			return errno(api.ErrArg)
		case len(fits) == 0:
			return errno(api.ErrSpace)
		}
		return at(fits[s.below(len(fits))])
	case api.OFree, api.OWrite, api.ORoot:
		return errno(x.copy().does(op))
	case api.ORead:
		if x.holds(op.Off, op.N) {
			return told(x.read(op.Off, op.N)...)
		}
	case api.OGet:
		return at(x.root)
	}
	return errno(api.ErrArg)
}

// wrong is an answer that is other than this one in one field.
func (s *script) wrong(a api.Ans) api.Ans {
	a.Data = slices.Clone(a.Data)
	switch s.below(5) {
	case 0:
		a.Err = api.Errno(s.below(9) - 1)
	case 1:
		a.Off += 8 * (s.below(9) - 4)
	case 2:
		a.Off += 1 + s.below(30)
	case 3:
		if len(a.Data) > 0 {
			a.Data[s.below(len(a.Data))] ^= 1 << s.below(8)
			break
		}
		a.Data = append(a.Data, 0)
	case 4:
		a.Data = append(a.Data, byte(s.below(2)))
	}
	return a
}

// P25.1, P25.2: long runs in heaps of all sizes, each answer among some that lie near.
func TestLongRuns(t *testing.T) {
	s := script(25)
	for lines := 1; lines <= mostWords/8; lines++ {
		x, j := newMirror(8*lines), judge.New(8*lines)
		wears := 150 + s.below(300)
		for i := range 400 {
			op := s.op(x)
			a := s.right(x, op)
			told := []api.Ans{s.wrong(a), s.wrong(a), a, s.wrong(a)}
			if i >= wears {
				told = append(told, errno(api.ErrWorn))
			}
			for _, a := range told {
				if a.Err == api.ErrWorn && i < wears {
					continue
				}
				next, may := x.see(op, a)
				if j.See(op, a) != may {
					t.Fatalf("%d lines, step %d: %v, told %v: %v", lines, i, op, a, !may)
				}
				if may {
					x = next
				}
			}
			if !x.sees(j) {
				t.Fatalf("%d lines, step %d: %v is not as it should be", lines, i, op)
			}
		}
		if x.worn != (wears < 400) {
			t.Errorf("%d lines: worn %v", lines, x.worn)
		}
	}
}

// watched is a heap, a judge that goes along, and the mirror beside it.
type watched struct {
	h *heap.Heap
	j *judge.Judge
	x *mirror
}

// open makes a heap on a new memory; no, if its lines are worn at once.
func open(t *testing.T, p api.Plan, limits []int) (watched, bool) {
	t.Helper()
	m := nvm.New(plan.Device(p), limits)
	if err := heap.Format(m, p); err == api.ErrWorn {
		return watched{}, false
	}
	h, err := heap.Open(m, p)
	if err != api.OK {
		t.Fatal(p, err)
	}
	return watched{h, judge.New(8 * p.Lines), newMirror(8 * p.Lines)}, true
}

// step does an operation on the heap: what it tells is never a no, and what is told beside it is one, if it may not be.
func (w *watched) step(t *testing.T, s *script, op api.Op) {
	t.Helper()
	a := w.h.Do(op)
	for range 3 {
		other := s.wrong(a)
		if _, may := w.x.see(op, other); !may && w.j.See(op, other) {
			t.Fatalf("%v: told %v, a yes to %v", op, a, other)
		}
	}
	if !w.j.See(op, a) {
		t.Fatalf("%v: a no to %v", op, a)
	}
	next, may := w.x.see(op, a)
	if !may || !next.sees(w.j) || w.j.Worn() && !w.h.Worn() {
		t.Fatalf("%v, told %v: not as it should be", op, a)
	}
	w.x = next
}

// P25.3: of a right heap it never says no, on lines that last.
func TestRightHeaps(t *testing.T) {
	s := script(7)
	for lines := 1; lines <= mostWords/8; lines += 1 + s.below(4) {
		p := api.Plan{Lines: lines, Spare: s.below(17), Period: 1 + s.below(9), Batch: 1 + s.below(5)}
		w, _ := open(t, p, nil)
		for range 300 {
			w.step(t, &s, s.op(w.x))
		}
		if w.j.Worn() {
			t.Errorf("%d lines: worn", lines)
		}
	}
}

// P25.3: nor on lines that wear out, while they are replaced, and when none is left.
func TestRightWornHeaps(t *testing.T) {
	s := script(11)
	worn, pending := 0, 0
	for range 150 {
		p := api.Plan{Lines: 1 + s.below(12), Spare: s.below(6), Period: 1 + s.below(6), Batch: 1 + s.below(4)}
		longest := 1 + s.below(60)
		limits := make([]int, plan.Device(p))
		for i := range limits {
			limits[i] = s.below(longest+2) - 1
		}
		w, ok := open(t, p, limits)
		if !ok {
			continue
		}
		for range 250 {
			w.step(t, &s, s.op(w.x))
			if w.h.Worn() && !w.j.Worn() {
				pending++
			}
		}
		if w.j.Worn() {
			worn++
		}
	}
	if worn < 50 || pending == 0 {
		t.Errorf("%d worn, %d steps on a heap that is, with nothing refused yet", worn, pending)
	}
}
