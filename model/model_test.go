package model_test

import (
	"math"
	"slices"
	"testing"

	"darning/api"
	"darning/chain"
	"darning/image"
	"darning/model"
	"darning/span"
)

// These are the document's numbers, written anew.
const (
	leastSize = 2
	mostWords = 512
	mostBytes = 448
	mostNeed  = 57 // words that mostBytes need
)

// row is blocks of such sizes, one behind the other; those below 0 are free.
func row(sizes ...int) []api.Block {
	var l []api.Block
	at := 0
	for _, n := range sizes {
		l = append(l, api.Block{At: at, Size: max(n, -n), Used: n > 0})
		at += max(n, -n)
	}
	return l
}

// rows are all blocks that there may be in so many words.
func rows(words int) [][]api.Block {
	var all [][]api.Block
	var more func(sizes []int, left int)
	more = func(sizes []int, left int) {
		if left == 0 {
			all = append(all, row(sizes...))
		}
		for n := leastSize; n <= left; n++ {
			more(append(slices.Clone(sizes), n), left-n)
			if len(sizes) == 0 || sizes[len(sizes)-1] > 0 {
				more(append(slices.Clone(sizes), -n), left-n)
			}
		}
	}
	more(nil, words)
	return all
}

// farNumbers are at the edges, and those that a smaller kind of number would take for another one.
func farNumbers() []int {
	all := []int{math.MinInt, math.MinInt + 1, math.MinInt + 7, math.MinInt + 8, math.MinInt + 448, math.MaxInt - 448, math.MaxInt - 447, math.MaxInt - 8, math.MaxInt - 7, math.MaxInt - 1, math.MaxInt}
	for _, bit := range []int{16, 31, 32, 33, 48, 60, 61, 62} {
		for _, d := range []int{-448, -8, -1, 0, 1, 2, 8, 16, 64, 448} {
			all = append(all, 1<<bit+d, -(1<<bit)+d)
		}
	}
	return all
}

// next is a number below n; it comes of a short rule.
func next(state *uint64, n int) int {
	*state = *state*6364136223846793005 + 1442695040888963407
	return int(*state >> 33 % uint64(n))
}

// some are bytes that come of a short rule.
func some(state *uint64, n int) []byte {
	b := make([]byte, n)
	for i := range b {
		b[i] = byte(next(state, 256))
	}
	return b
}

// odd are bytes of which none is 0, as long as there are no more than 80.
func odd(n int) []byte {
	b := make([]byte, n)
	for i := range b {
		b[i] = byte(250 - 3*i)
	}
	return b
}

// mirror is a heap beside the model: its blocks in order, all its bytes, those of headers among them, and its root.
type mirror struct {
	l     []api.Block
	bytes []byte
	root  int
}

// begins tells the place of the used block whose first byte is at off; -1: there is none.
func (x *mirror) begins(off int) int {
	for i, b := range x.l {
		if b.Used && off == 8*b.At+8 {
			return i
		}
	}
	return -1
}

// owner tells the place of the used block behind whose header a byte is; -1: there is none.
func (x *mirror) owner(off int) int {
	for i, b := range x.l {
		if b.Used && off >= 8*b.At+8 && off < 8*b.At+8*b.Size {
			return i
		}
	}
	return -1
}

// holds tells whether so many bytes are one used block's, byte by byte.
func (x *mirror) holds(off, n int) bool {
	if n < 0 || n > mostBytes || off < 0 || off > len(x.bytes) {
		return false
	}
	if n == 0 {
		return x.owner(off) >= 0 || x.owner(off-1) >= 0
	}
	for k := off; k < off+n; k++ {
		if x.owner(k) < 0 || x.owner(k) != x.owner(off) {
			return false
		}
	}
	return true
}

// fits tells the places of the smallest free blocks that are large enough for n bytes.
func (x *mirror) fits(n int) []int {
	if n < 1 || n > mostBytes {
		return nil
	}
	var places []int
	for i, b := range x.l {
		if b.Used || 8*b.Size-8 < n {
			continue
		}
		if len(places) > 0 && b.Size < x.l[places[0]].Size {
			places = nil
		}
		if len(places) == 0 || b.Size == x.l[places[0]].Size {
			places = append(places, i)
		}
	}
	return places
}

// offs tells the offsets of the blocks that fit.
func (x *mirror) offs(n int) []int {
	var l []int
	for _, i := range x.fits(n) {
		l = append(l, 8*x.l[i].At+8)
	}
	return l
}

// alloc takes a block for n bytes at off, if that may be.
func (x *mirror) alloc(n, off int) bool {
	for _, i := range x.fits(n) {
		b := x.l[i]
		if off != 8*b.At+8 {
			continue
		}
		size := (n+7)/8 + 1
		if b.Size-size < leastSize {
			size = b.Size
		}
		parts := []api.Block{{At: b.At, Size: size, Used: true}}
		if size < b.Size {
			parts = append(parts, api.Block{At: b.At + size, Size: b.Size - size})
		}
		x.l = slices.Replace(x.l, i, i+1, parts...)
		clear(x.bytes[off : 8*b.At+8*size])
		return true
	}
	return false
}

// free gives the block at off back.
func (x *mirror) free(off int) api.Errno {
	i := x.begins(off)
	if i < 0 {
		return api.ErrArg
	}
	if x.root == off {
		return api.ErrState
	}
	x.l[i].Used = false
	if i+1 < len(x.l) && !x.l[i+1].Used {
		x.l[i].Size += x.l[i+1].Size
		x.l = slices.Delete(x.l, i+1, i+2)
	}
	if i > 0 && !x.l[i-1].Used {
		x.l[i-1].Size += x.l[i].Size
		x.l = slices.Delete(x.l, i, i+1)
	}
	return api.OK
}

// write writes bytes.
func (x *mirror) write(off int, b []byte) api.Errno {
	if !x.holds(off, len(b)) {
		return api.ErrArg
	}
	copy(x.bytes[off:], b)
	return api.OK
}

// setRoot makes off the root.
func (x *mirror) setRoot(off int) api.Errno {
	if off != 0 && x.begins(off) < 0 {
		return api.ErrArg
	}
	x.root = off
	return api.OK
}

// copy is a mirror of its own.
func (x *mirror) copy() *mirror {
	return &mirror{l: slices.Clone(x.l), bytes: slices.Clone(x.bytes), root: x.root}
}

// pair is a model and its mirror.
type pair struct {
	m *model.Model
	x *mirror
}

// fresh is a pair of so many words, of which nothing is taken.
func fresh(t *testing.T, words int) *pair {
	t.Helper()
	m := model.New(words)
	if m == nil {
		t.Fatal(words, "no model")
	}
	return &pair{m, &mirror{l: row(-words), bytes: make([]byte, 8*words)}}
}

// copy is a pair of its own.
func (p *pair) copy() *pair {
	return &pair{p.m.Copy(), p.x.copy()}
}

// alloc holds a taking against the mirror.
func (p *pair) alloc(t *testing.T, n, off int) bool {
	t.Helper()
	was := slices.Clone(p.x.l)
	want := p.x.alloc(n, off)
	if got := p.m.Alloc(n, off); got != want {
		t.Fatalf("%v: Alloc %d at %d: %v", was, n, off, got)
	}
	return want
}

// free holds a giving back against the mirror.
func (p *pair) free(t *testing.T, off int) api.Errno {
	t.Helper()
	was := slices.Clone(p.x.l)
	want := p.x.free(off)
	if got := p.m.Free(off); got != want {
		t.Fatalf("%v, root %d: Free %d: %d, not %d", was, p.x.root, off, got, want)
	}
	return want
}

// write holds a writing against the mirror.
func (p *pair) write(t *testing.T, off int, b []byte) api.Errno {
	t.Helper()
	want := p.x.write(off, b)
	if got := p.m.Write(off, b); got != want {
		t.Fatalf("%v: Write of %d bytes at %d: %d, not %d", p.x.l, len(b), off, got, want)
	}
	return want
}

// setRoot holds a setting of the root against the mirror.
func (p *pair) setRoot(t *testing.T, off int) api.Errno {
	t.Helper()
	want := p.x.setRoot(off)
	if got := p.m.SetRoot(off); got != want {
		t.Fatalf("%v: SetRoot %d: %d, not %d", p.x.l, off, got, want)
	}
	return want
}

// read holds a reading against the mirror.
func (p *pair) read(t *testing.T, off, n int) {
	t.Helper()
	var want []byte
	wantErr := api.ErrArg
	if p.x.holds(off, n) {
		want, wantErr = p.x.bytes[off:off+n], api.OK
	}
	if got, err := p.m.Read(off, n); err != wantErr || !slices.Equal(got, want) {
		t.Fatalf("%v: Read of %d bytes at %d: %v %d, not %v %d", p.x.l, n, off, got, err, want, wantErr)
	}
}

// fits holds what fits against the mirror.
func (p *pair) fits(t *testing.T, n int) {
	t.Helper()
	if got, want := p.m.Fits(n), p.x.offs(n); !slices.Equal(got, want) {
		t.Fatalf("%v: Fits %d: %v, not %v", p.x.l, n, got, want)
	}
}

// check holds the blocks, the root and all bytes of used blocks against the mirror.
func (p *pair) check(t *testing.T) {
	t.Helper()
	if got := p.m.Blocks(); !slices.Equal(got, p.x.l) {
		t.Fatalf("%v, not %v", got, p.x.l)
	}
	if got := p.m.Root(); got != p.x.root {
		t.Fatalf("%v: root %d, not %d", p.x.l, got, p.x.root)
	}
	for _, b := range p.x.l {
		if !b.Used {
			continue
		}
		for off := 8*b.At + 8; off < 8*b.At+8*b.Size; off += 56 {
			p.read(t, off, min(56, 8*b.At+8*b.Size-off))
		}
	}
}

// pieces are sizes that can be taken, and are so many words together.
func pieces(size int) []int {
	var l []int
	for size > mostNeed {
		piece := min(mostNeed, size-leastSize)
		l = append(l, piece)
		size -= piece
	}
	return append(l, size)
}

// made is a pair that has those blocks, used ones of 58 words at most, that all are full of bytes: all is taken in pieces, and then given back what is free, or one more than a piece.
func made(t *testing.T, l []api.Block) *pair {
	t.Helper()
	last := l[len(l)-1]
	p := fresh(t, last.At+last.Size)
	piece := func(b api.Block, do func(off, size int)) {
		at := b.At
		for _, size := range pieces(b.Size) {
			do(8*at+8, size)
			at += size
		}
	}
	for _, b := range l {
		piece(b, func(off, size int) { p.alloc(t, 8*size-8, off) })
	}
	for _, b := range l {
		if b.Used && b.Size > mostNeed {
			piece(b, func(off, size int) { p.free(t, off) })
			p.alloc(t, mostBytes, 8*b.At+8)
		}
	}
	for _, b := range l {
		piece(b, func(off, size int) { p.write(t, off, odd(8*size-8)) })
	}
	for _, b := range l {
		if !b.Used {
			piece(b, func(off, size int) { p.free(t, off) })
		}
	}
	p.check(t)
	if !slices.Equal(p.m.Blocks(), l) {
		t.Fatalf("%v, not %v", p.m.Blocks(), l)
	}
	return p
}

// P20.1: a model is of as many words as a heap may have; nothing is taken, and the root is 0.
func TestNew(t *testing.T) {
	count := 0
	for words := -600; words <= 1200; words++ {
		m := model.New(words)
		may := words == 8 || words > 8 && words <= 512 && words%8 == 0
		if (m != nil) != may {
			t.Fatal(words, m != nil)
		}
		if !may {
			continue
		}
		count++
		if !slices.Equal(m.Blocks(), row(-words)) || m.Root() != 0 || !slices.Equal(m.Fits(8), []int{8}) {
			t.Error(words, m.Blocks(), m.Root(), m.Fits(8))
		}
		if b, err := m.Read(8, 0); err != api.ErrArg || b != nil {
			t.Error(words, b, err)
		}
	}
	if count != 64 {
		t.Error(count)
	}
	for _, words := range farNumbers() {
		if model.New(words) != nil {
			t.Error(words)
		}
	}
}

// P20.1: what fits, written out, the document's example first.
func TestFitsByHand(t *testing.T) {
	for i, x := range []struct {
		l    []api.Block
		n    int
		want []int
	}{
		{row(-16), 8, []int{8}}, {row(-16), 120, []int{8}}, {row(-16), 121, nil}, {row(-16), 0, nil}, {row(-16), -1, nil},
		{row(-512), 448, []int{8}}, {row(-512), 449, nil}, {row(-512), 450, nil}, {row(-512), 4088, nil},
		{row(8), 8, nil}, {row(8), 1, nil}, {row(3, -5), 8, []int{32}}, {row(-3, 5), 8, []int{8}},
		{row(-2, 3, -2, 3, -3, 3), 8, []int{8, 48}}, {row(-2, 3, -2, 3, -3, 3), 9, []int{88}}, {row(-2, 3, -2, 3, -3, 3), 16, []int{88}}, {row(-2, 3, -2, 3, -3, 3), 17, nil},
		{row(-6, 2, -5, 3), 25, []int{72}}, {row(-6, 2, -5, 3), 24, []int{72}}, {row(-6, 2, -5, 3), 1, []int{72}}, {row(-6, 2, -5, 3), 33, []int{8}}, // five are enough ahead of six
		{row(2, -57, 2, -58, 2, -57, 6), 448, []int{24, 976}}, {row(2, -56, 2, -58, 2), 448, []int{488}},
		{row(-4, 2, -4, 2, -4), 20, []int{8, 56, 104}},
	} {
		if got := made(t, x.l).m.Fits(x.n); !slices.Equal(got, x.want) {
			t.Errorf("row %d: %v, not %v", i, got, x.want)
		}
	}
}

// P20.1: of all blocks in one line and two all numbers of bytes, and those that are none.
func TestAllFits(t *testing.T) {
	for _, words := range []int{8, 16} {
		for _, l := range rows(words) {
			p := made(t, l)
			for n := -2; n <= 8*words+2; n++ {
				p.fits(t, n)
			}
		}
	}
}

// P20.1: numbers of bytes that no block is taken for.
func TestNoBytesFit(t *testing.T) {
	for _, l := range [][]api.Block{row(-8), row(-512), row(3, -5), row(2, -510), row(2, -453, 57)} {
		p := made(t, l)
		for _, n := range append(farNumbers(), math.MinInt, -449, -448, -8, -1, 0, 449, 450, 456, 512, 4096) {
			if got := p.m.Fits(n); len(got) != 0 {
				t.Error(l, n, got)
			}
			for _, b := range l {
				if p.alloc(t, n, 8*b.At+8) {
					t.Error(l, n)
				}
			}
			p.alloc(t, n, n)
		}
		for n := 440; n <= 460; n++ {
			p.fits(t, n)
		}
		p.check(t)
	}
}

// P20.1: a taking, written out.
func TestAllocByHand(t *testing.T) {
	for i, x := range []struct {
		l      []api.Block
		n, off int
		ok     bool
		want   []api.Block
	}{
		{row(-8), 1, 8, true, row(2, -6)}, {row(-8), 8, 8, true, row(2, -6)}, {row(-8), 9, 8, true, row(3, -5)}, {row(-8), 16, 8, true, row(3, -5)},
		{row(-8), 40, 8, true, row(6, -2)}, {row(-8), 41, 8, true, row(8)}, {row(-8), 48, 8, true, row(8)}, {row(-8), 56, 8, true, row(8)}, {row(-8), 57, 8, false, row(-8)}, // one word left would be no block
		{row(-8), 8, 0, false, row(-8)}, {row(-8), 8, 7, false, row(-8)}, {row(-8), 8, 9, false, row(-8)}, {row(-8), 8, 16, false, row(-8)}, {row(-8), 8, -8, false, row(-8)}, {row(-8), 8, 72, false, row(-8)},
		{row(3, -5), 8, 8, false, row(3, -5)}, {row(3, -5), 8, 32, true, row(3, 2, -3)}, {row(3, -5), 8, 40, false, row(3, -5)}, {row(3, -5), 8, 24, false, row(3, -5)},
		{row(-5, 4, -4, 3), 8, 8, false, row(-5, 4, -4, 3)}, {row(-5, 4, -4, 3), 8, 80, true, row(-5, 4, 2, -2, 3)}, {row(-5, 4, -4, 3), 25, 8, true, row(5, 4, -4, 3)}, {row(-5, 4, -4, 3), 25, 80, false, row(-5, 4, -4, 3)},
		{row(-2, 12, -2), 8, 8, true, row(2, 12, -2)}, {row(-2, 12, -2), 8, 120, true, row(-2, 12, 2)}, {row(-2, 12, -2), 9, 8, false, row(-2, 12, -2)},
		{row(-512), 448, 8, true, row(57, -455)}, {row(-512), 449, 8, false, row(-512)}, {row(40, -58, 6), 448, 328, true, row(40, 58, 6)}, {row(40, -57, 7), 448, 328, true, row(40, 57, 7)}, {row(40, -59, 5), 448, 328, true, row(40, 57, -2, 5)}, {row(40, -56, 8), 448, 328, false, row(40, -56, 8)},
	} {
		p := made(t, x.l)
		if got := p.m.Alloc(x.n, x.off); got != x.ok || !slices.Equal(p.m.Blocks(), x.want) {
			t.Errorf("row %d: %v %v, not %v %v", i, got, p.m.Blocks(), x.ok, x.want)
		}
		if b, err := p.m.Read(x.off, x.n); x.ok && (err != api.OK || !slices.Equal(b, make([]byte, x.n))) {
			t.Errorf("row %d: %v %d", i, b, err)
		}
	}
}

// P20.1: of all blocks in one line all numbers of bytes at all offsets, and of those in two at each block; what is taken is noughts, words that a block would be too small for among them, and all else is as it was.
func TestAllAllocs(t *testing.T) {
	for _, l := range rows(8) {
		p := made(t, l)
		for n := -1; n <= 66; n++ {
			for off := -9; off <= 80; off++ {
				q := p.copy()
				q.alloc(t, n, off)
				q.check(t)
			}
		}
	}
	for _, l := range rows(16) {
		p := made(t, l)
		for _, b := range l {
			for n := 7; n <= 8*b.Size+8; n += 8 {
				q := p.copy()
				q.alloc(t, n, 8*b.At)
				q.alloc(t, n, 8*b.At+8)
				q.alloc(t, n+2, 8*b.At+8)
				q.check(t)
			}
		}
	}
}

// P20.2: a giving back, written out.
func TestFreeByHand(t *testing.T) {
	for i, x := range []struct {
		l    []api.Block
		root int
		off  int
		err  api.Errno
		want []api.Block
	}{
		{row(8), 0, 8, api.OK, row(-8)}, {row(8), 0, 0, api.ErrArg, row(8)}, {row(8), 0, 16, api.ErrArg, row(8)}, {row(8), 0, 9, api.ErrArg, row(8)}, {row(8), 0, 7, api.ErrArg, row(8)}, {row(8), 0, -8, api.ErrArg, row(8)}, {row(8), 0, 64, api.ErrArg, row(8)}, {row(8), 0, 72, api.ErrArg, row(8)},
		{row(-8), 0, 8, api.ErrArg, row(-8)}, {row(-8), 0, 0, api.ErrArg, row(-8)},
		{row(3, 5), 0, 8, api.OK, row(-3, 5)}, {row(3, 5), 0, 32, api.OK, row(3, -5)}, {row(3, -5), 0, 8, api.OK, row(-8)}, {row(-3, 5), 0, 32, api.OK, row(-8)}, {row(3, -5), 0, 32, api.ErrArg, row(3, -5)}, {row(3, -5), 0, 24, api.ErrArg, row(3, -5)},
		{row(-3, 3, -2), 0, 32, api.OK, row(-8)}, {row(2, -2, 2, -2), 0, 40, api.OK, row(2, -6)}, {row(2, -2, 2, -2), 0, 8, api.OK, row(-4, 2, -2)}, {row(-2, 2, 2, -2), 0, 24, api.OK, row(-4, 2, -2)}, {row(-2, 2, 2, -2), 0, 40, api.OK, row(-2, 2, -4)}, {row(2, 2, 2, 2), 0, 24, api.OK, row(2, -2, 2, 2)},
		{row(8), 8, 8, api.ErrState, row(8)}, {row(3, 5), 8, 8, api.ErrState, row(3, 5)}, {row(3, 5), 32, 32, api.ErrState, row(3, 5)}, {row(3, 5), 32, 8, api.OK, row(-3, 5)}, {row(3, 5), 8, 32, api.OK, row(3, -5)}, {row(3, -5), 8, 0, api.ErrArg, row(3, -5)}, {row(3, -5), 8, 9, api.ErrArg, row(3, -5)}, {row(-3, 3, -2), 32, 32, api.ErrState, row(-3, 3, -2)},
	} {
		p := made(t, x.l)
		if err := p.setRoot(t, x.root); err != api.OK {
			t.Fatal(i, err)
		}
		if err := p.m.Free(x.off); err != x.err || !slices.Equal(p.m.Blocks(), x.want) || p.m.Root() != x.root {
			t.Errorf("row %d: %d %v %d, not %d %v", i, err, p.m.Blocks(), p.m.Root(), x.err, x.want)
		}
	}
}

// roots are all offsets of used blocks, and 0.
func roots(l []api.Block) []int {
	offs := []int{0}
	for _, b := range l {
		if b.Used {
			offs = append(offs, 8*b.At+8)
		}
	}
	return offs
}

// P20.2: of all blocks in one line and two each byte is one at which a block's begin, or none; none, and each used one, is the root.
func TestAllFrees(t *testing.T) {
	for _, words := range []int{8, 16} {
		for _, l := range rows(words) {
			p := made(t, l)
			for _, root := range roots(l) {
				p.setRoot(t, root)
				for off := -9; off <= 8*words+16; off++ {
					q := p.copy()
					if q.free(t, off) == api.OK {
						q.check(t)
					}
				}
				p.check(t)
			}
		}
	}
}

// P20.2: the root is 0, or the offset of a used block, and no other one: all bytes of all blocks in one line and two.
func TestAllRoots(t *testing.T) {
	for _, words := range []int{8, 16} {
		for _, l := range rows(words) {
			p := made(t, l)
			for off := -9; off <= 8*words+16; off++ {
				p.setRoot(t, off)
				if p.m.Root() != p.x.root {
					t.Fatal(l, off, p.m.Root(), p.x.root)
				}
			}
			p.check(t)
			if err := p.setRoot(t, 0); err != api.OK || p.m.Root() != 0 {
				t.Fatal(l, err, p.m.Root())
			}
		}
	}
}

// P20.2: once it is no longer the root it can be given back, and then it is no block that could be the root.
func TestRootGoesOn(t *testing.T) {
	p := made(t, row(3, 5))
	for i, x := range []struct {
		free bool
		off  int
		want api.Errno
		root int
	}{
		{false, 32, api.OK, 32}, {true, 32, api.ErrState, 32}, {false, 33, api.ErrArg, 32}, {false, 24, api.ErrArg, 32}, {false, 8, api.OK, 8}, {true, 32, api.OK, 8}, {false, 32, api.ErrArg, 8},
		{true, 8, api.ErrState, 8}, {true, 32, api.ErrArg, 8}, {false, 8, api.OK, 8}, {false, 0, api.OK, 0}, {true, 8, api.OK, 0}, {false, 8, api.ErrArg, 0}, {true, 8, api.ErrArg, 0}, {false, 0, api.OK, 0},
	} {
		do := p.setRoot
		if x.free {
			do = p.free
		}
		if err := do(t, x.off); err != x.want || p.m.Root() != x.root {
			t.Errorf("row %d: %d %d", i, err, p.m.Root())
		}
		p.check(t)
	}
}

// P20.2: bytes of used blocks, of free ones, of headers, of two blocks, and none, written out.
func TestBytesByHand(t *testing.T) {
	p := made(t, row(3, -4, 5, 2, -2)) // bytes 8 to 23, 64 to 95, 104 to 111
	for i, x := range []struct {
		off, n int
		want   bool
	}{
		{8, 16, true}, {8, 1, true}, {23, 1, true}, {15, 2, true}, {8, 17, false}, {7, 1, false}, {7, 2, false}, {0, 8, false}, {0, 24, false}, {23, 2, false}, {24, 1, false},
		{64, 32, true}, {95, 1, true}, {56, 8, false}, {63, 2, false}, {64, 33, false}, {64, 48, false}, {96, 8, false}, {104, 8, true}, {95, 10, false}, {111, 2, false}, {112, 1, false}, {120, 8, false},
		{8, 0, true}, {23, 0, true}, {24, 0, true}, {25, 0, false}, {7, 0, false}, {0, 0, false}, {1, 0, false},
		{63, 0, false}, {64, 0, true}, {96, 0, true}, {97, 0, false}, {103, 0, false}, {104, 0, true}, {112, 0, true}, {113, 0, false}, {120, 0, false}, {128, 0, false},
		{8, -1, false}, {24, -16, false}, {24, -1, false}, {-1, 0, false}, {-8, 16, false}, {-1, 9, false}, {-1, 2, false},
	} {
		b, err := p.m.Read(x.off, x.n)
		if (err == api.OK) != x.want || !x.want && (err != api.ErrArg || b != nil) || x.want && len(b) != x.n {
			t.Errorf("row %d: %v %d", i, b, err)
		}
		if x.n < 0 {
			continue
		}
		if err := p.m.Copy().Write(x.off, odd(x.n)); (err == api.OK) != x.want || !x.want && err != api.ErrArg {
			t.Errorf("row %d: written: %d", i, err)
		}
	}
}

// P20.2: of all blocks in one line all bytes, and those around them; what is written is read, and all else is as it was.
func TestAllBytes(t *testing.T) {
	for _, l := range rows(8) {
		p := made(t, l)
		for off := -10; off <= 75; off++ {
			for n := -2; n <= 70; n++ {
				p.read(t, off, n)
				if n < 0 {
					continue
				}
				q := p.copy()
				if q.write(t, off, slices.Repeat([]byte{7}, n)) == api.OK {
					q.check(t)
				}
			}
		}
		p.check(t)
	}
}

// P20.2: of all blocks in two lines bytes at the edges of each of them.
func TestBytesAtEdges(t *testing.T) {
	for _, l := range rows(16) {
		p := made(t, l)
		for _, b := range l {
			for _, off := range []int{8*b.At + 7, 8*b.At + 8, 8*b.At + 9, 8 * (b.At + b.Size)} {
				for _, n := range []int{0, 8*b.Size - 9, 8*b.Size - 8, 8*b.Size - 7} {
					p.read(t, off, n)
					q := p.copy()
					if q.write(t, off, slices.Repeat([]byte{9}, n)) == api.OK {
						q.check(t)
					}
				}
			}
		}
	}
}

// P20.2: as many bytes as one call may have, and one more, though the block has them.
func TestMostBytes(t *testing.T) {
	p := made(t, row(-2, 58, -450, 2))
	if b, err := p.m.Read(24, 448); err != api.OK || len(b) != 448 {
		t.Error(len(b), err)
	}
	if b, err := p.m.Read(24, 449); err != api.ErrArg || b != nil {
		t.Error(b, err)
	}
	if b, err := p.m.Read(24, 456); err != api.ErrArg || b != nil {
		t.Error(b, err)
	}
	if p.m.Write(24, make([]byte, 449)) != api.ErrArg || p.m.Write(24, make([]byte, 1<<20)) != api.ErrArg {
		t.Error("too many bytes")
	}
	p.check(t)
	for off := 15; off < 50; off++ {
		for n := mostBytes - 25; n <= mostBytes+10; n++ {
			p.read(t, off, n)
			q := p.copy()
			q.write(t, off, slices.Repeat([]byte{3}, n))
			q.check(t)
		}
	}
	if p.write(t, 32, slices.Repeat([]byte{5}, 448)) != api.OK {
		t.Error("the last bytes")
	}
	p.check(t)
}

// P20.2: reading and writing, written out.
func TestReadAndWriteByHand(t *testing.T) {
	m := model.New(16)
	if !m.Alloc(20, 8) || !m.Alloc(8, 40) {
		t.Fatal(m.Blocks())
	}
	for i, x := range []struct {
		off  int
		b    string
		want string // bytes 8 to 31
	}{
		{8, "ab", "ab......................"}, {31, "z", "ab.....................z"}, {15, "cd", "ab.....cd..............z"}, {9, "", "ab.....cd..............z"}, {8, "0123456789abcdefghijklmn", "0123456789abcdefghijklmn"},
		{16, "ABCDEFGH", "01234567ABCDEFGHghijklmn"}, {40, "ABCDEFGH", "01234567ABCDEFGHghijklmn"}, {14, "abcdefghijkl", "012345abcdefghijklijklmn"},
	} {
		if err := m.Write(x.off, []byte(x.b)); err != api.OK {
			t.Errorf("row %d: %d", i, err)
		}
		b, err := m.Read(8, 24)
		for k := range b {
			if b[k] == 0 {
				b[k] = '.'
			}
		}
		if err != api.OK || string(b) != x.want {
			t.Errorf("row %d: %s %d, not %s", i, b, err, x.want)
		}
	}
	if b, err := m.Read(13, 3); err != api.OK || string(b) != "5ab" {
		t.Error(b, err)
	}
	if b, err := m.Read(40, 8); err != api.OK || string(b) != "ABCDEFGH" {
		t.Error(b, err)
	}
	if b, err := m.Read(12, 0); err != api.OK || len(b) != 0 {
		t.Error(b, err)
	}
}

// P20.1: a block that was written, given back, and taken again is noughts.
func TestNoughtsAnew(t *testing.T) {
	for size := leastSize; size <= 8; size++ {
		if size == 7 {
			continue
		}
		sizes := []int{size}
		if size < 8 {
			sizes = append(sizes, size-8)
		}
		p := made(t, row(sizes...))
		p.write(t, 8, odd(8*size-8))
		p.free(t, 8)
		for n := 1; n <= 56; n++ {
			q := p.copy()
			if !q.alloc(t, n, 8) {
				t.Fatal(size, n)
			}
			q.check(t)
			q.write(t, 8, odd(n))
			q.check(t)
		}
	}
}

// P20.1 to P20.3, R1, R3: numbers whose sum would go round.
func TestFarAway(t *testing.T) {
	for _, l := range [][]api.Block{row(8), row(-8), row(3, -5), row(-508, 4), row(57, -453, 2)} {
		p := made(t, l)
		for _, far := range farNumbers() {
			p.fits(t, far)
			p.free(t, far)
			p.setRoot(t, far)
			for _, n := range []int{math.MinInt, math.MinInt + 64, -448, -64, -8, -1, 0, 1, 8, 56, 447, 448, 449, math.MaxInt - 63, math.MaxInt - 8, math.MaxInt} {
				p.read(t, far, n)
				p.alloc(t, n, far)
			}
			for _, n := range []int{0, 1, 8, 448, 449} {
				p.write(t, far, odd(n))
			}
			for _, off := range []int{-8, 0, 7, 8, 16, 32, 64, 4072, 4088, 4096} {
				p.read(t, off, far)
				p.alloc(t, far, off)
			}
		}
		p.check(t)
	}
}

// P20.1, P20.2: as many blocks as there can be.
func TestManyBlocks(t *testing.T) {
	p := fresh(t, mostWords)
	for k := range 256 {
		if !p.alloc(t, 1+k%8, 16*k+8) {
			t.Fatal(k)
		}
		p.write(t, 16*k+8, []byte{byte(k), byte(k + 1), 1, 2, 3, 4, 5, 6})
	}
	p.check(t)
	p.fits(t, 1)
	if len(p.m.Blocks()) != 256 || p.alloc(t, 1, 8) || p.alloc(t, 1, 4088) {
		t.Error(p.m.Blocks())
	}
	for k := 0; k < 256; k += 2 {
		p.free(t, 16*k+8)
	}
	p.check(t)
	p.fits(t, 8)
	p.fits(t, 9)
	if len(p.m.Fits(8)) != 128 {
		t.Error(p.m.Fits(8))
	}
	for k := 255; k > 0; k -= 2 {
		p.free(t, 16*k+8)
		p.check(t)
	}
	if !slices.Equal(p.m.Blocks(), row(-512)) {
		t.Error(p.m.Blocks())
	}
}

// changes are all calls that change something; each one does so, in whatever order, on blocks of 4 and 2 used words, 2 free ones and 8 used ones.
func changes(t *testing.T) []func(p *pair) {
	return []func(p *pair){
		func(p *pair) {
			if !p.alloc(t, 8, 56) {
				t.Error("no block")
			}
		},
		func(p *pair) {
			if p.free(t, 8) != api.OK {
				t.Error("not free")
			}
		},
		func(p *pair) {
			if p.write(t, 41, []byte{71, 72, 73}) != api.OK {
				t.Error("not written")
			}
		},
		func(p *pair) {
			if p.setRoot(t, 40) != api.OK {
				t.Error("no root")
			}
		},
	}
}

// P20.2: a copy is a model of its own: what is done on one is not done on the other one, nor on a copy of a copy, in whatever order.
func TestCopies(t *testing.T) {
	for i, first := range changes(t) {
		for k, second := range changes(t) {
			p := made(t, row(4, 2, -2, 8))
			p.setRoot(t, 72)
			q := p.copy()
			r := q.copy()
			first(p)
			second(q)
			for _, x := range []*pair{p, q, r} {
				x.check(t)
				for n := range 60 {
					x.fits(t, n)
				}
			}
			if i != k {
				second(p)
				first(q)
			}
			second(r)
			for _, x := range []*pair{p, q, r} {
				x.check(t)
			}
		}
	}
}

// grown are so many copies that each took a block at the same place, and wrote to it, and to another one.
func grown(t *testing.T, p *pair, off, copies int) []*pair {
	t.Helper()
	var all []*pair
	for k := range copies {
		q := p.copy()
		if !q.alloc(t, 8+8*k, off) || q.write(t, off, []byte{byte(k + 1)}) != api.OK || q.write(t, off+8*8, []byte{byte(k + 100)}) != api.OK {
			t.Fatal(p.x.l, k)
		}
		all = append(all, q)
	}
	return all
}

// P20.2: copies that all grow at the same place, ahead of so many other blocks, and behind them.
func TestCopiesThatGrow(t *testing.T) {
	for blocks := 1; blocks < 80; blocks++ {
		sizes := []int{-8}
		for range blocks {
			sizes = append(sizes, 2)
		}
		sizes = append(sizes, -(mostWords - 8 - 2*blocks))
		p := made(t, row(sizes...))
		all := grown(t, p, 8, 5)
		p.alloc(t, 56, 8)
		behind := p.copy()
		for k := range 5 {
			q := behind.copy()
			q.alloc(t, 40-8*k, 8*(8+2*blocks)+8)
			q.write(t, 8*(8+2*blocks)+8, odd(3+k))
			all = append(all, q)
		}
		p.free(t, 8)
		for _, q := range append(all, behind, p) {
			q.check(t)
		}
	}
}

// R3: a nil model.
func TestNil(t *testing.T) {
	var m *model.Model
	for _, k := range append(farNumbers(), -8, -1, 0, 1, 7, 8, 9, 16, 448, 449) {
		if m.Fits(k) != nil || m.Alloc(k, 8) || m.Alloc(8, k) || m.Free(k) != api.ErrArg || m.SetRoot(k) != api.ErrArg {
			t.Error(k)
		}
		if b, err := m.Read(k, 0); b != nil || err != api.ErrArg {
			t.Error(k, b, err)
		}
		if b, err := m.Read(8, k); b != nil || err != api.ErrArg {
			t.Error(k, b, err)
		}
		if m.Write(k, nil) != api.ErrArg || m.Write(k, []byte{1}) != api.ErrArg {
			t.Error(k)
		}
	}
	if m.Blocks() != nil || m.Root() != 0 || m.Copy() != nil {
		t.Error(m.Blocks(), m.Root())
	}
}

// R3: a model that no New made holds nothing.
func TestNotMade(t *testing.T) {
	m := new(model.Model)
	if m.Alloc(8, 8) || m.Alloc(1, 0) || m.Free(8) != api.ErrArg || m.SetRoot(8) != api.ErrArg || m.Write(8, []byte{1}) != api.ErrArg || len(m.Fits(8)) != 0 || m.Root() != 0 {
		t.Error(m.Blocks())
	}
	if b, err := m.Copy().Read(8, 1); b != nil || err != api.ErrArg {
		t.Error(b, err)
	}
}

// R2: what is handed in is neither changed nor kept, and what is behind its length is neither read nor written.
func TestHandedIn(t *testing.T) {
	p := made(t, row(3, 5))
	b := odd(40)
	was := slices.Clone(b)
	for off := -3; off < 70; off++ {
		for n := range 20 {
			p.write(t, off, b[:n])
			if !slices.Equal(b, was) {
				t.Fatal(off, n, b)
			}
		}
	}
	p.check(t)
	p.write(t, 8, b[:16])
	p.write(t, 32, b[8:40])
	clear(b)
	p.check(t)
}

// R2: what is told is new memory.
func TestNewMemory(t *testing.T) {
	p := made(t, row(3, -2, 2, -2, 7))
	blocks, offs := p.m.Blocks(), p.m.Fits(8)
	b, _ := p.m.Read(8, 16)
	whole, _ := p.m.Read(80, 48)
	wantBlocks, wantOffs, wantB, wantWhole := slices.Clone(blocks), slices.Clone(offs), slices.Clone(b), slices.Clone(whole)
	p.write(t, 8, make([]byte, 16))
	p.write(t, 80, make([]byte, 48))
	p.alloc(t, 8, 32)
	p.free(t, 48)
	if !slices.Equal(blocks, wantBlocks) || !slices.Equal(offs, wantOffs) || !slices.Equal(b, wantB) || !slices.Equal(whole, wantWhole) {
		t.Error(blocks, offs, b, whole)
	}
	blocks, offs = p.m.Blocks(), p.m.Fits(8)
	b, _ = p.m.Read(8, 16)
	whole, _ = p.m.Read(80, 48)
	clear(blocks[:cap(blocks)])
	clear(offs[:cap(offs)])
	for _, l := range [][]byte{b, whole} {
		l = l[:cap(l)]
		for i := range l {
			l[i] = 99
		}
	}
	p.check(t)
	p.fits(t, 8)
}

// R4, R6: what is refused changes nothing, and what is asked again is told again.
func TestRefusedAndAskedAgain(t *testing.T) {
	for _, l := range rows(8) {
		p := made(t, l)
		for off := -8; off <= 72; off++ {
			p.fits(t, off)
			p.read(t, off, 3)
			p.alloc(t, 0, off)
			p.alloc(t, 57, off)
			p.write(t, off, make([]byte, 57))
			if p.x.begins(off) < 0 {
				p.free(t, off)
				if off != 0 {
					p.setRoot(t, off)
				}
			}
			p.check(t)
		}
	}
}

// R6: two models side by side know nothing of one another.
func TestSideBySide(t *testing.T) {
	p, q := fresh(t, 16), fresh(t, 16)
	p.alloc(t, 30, 8)
	q.alloc(t, 8, 8)
	p.write(t, 8, odd(30))
	q.alloc(t, 16, 24)
	p.setRoot(t, 8)
	q.write(t, 24, []byte{1, 2, 3})
	p.check(t)
	q.check(t)
	q.free(t, 8)
	p.free(t, 8)
	p.check(t)
	q.check(t)
}

// P20.1, P20.2: long runs beside a mirror, of calls that go and of calls that are refused.
func TestLongRuns(t *testing.T) {
	state := uint64(20)
	for round := range 60 {
		p := fresh(t, 8+8*next(&state, 64))
		end := len(p.x.bytes)
		for range 200 {
			b := p.x.l[next(&state, len(p.x.l))]
			off := 8*b.At + 8
			if next(&state, 6) == 0 {
				off = next(&state, end+20) - 10
			}
			switch n := next(&state, 10+8*round%460); next(&state, 6) {
			case 0, 1, 2:
				if fits := p.x.offs(n); len(fits) > 0 && next(&state, 4) > 0 {
					off = fits[next(&state, len(fits))]
				}
				p.alloc(t, n, off)
			case 3:
				p.free(t, off)
			case 4:
				off += next(&state, 8*b.Size)
				p.write(t, off, some(&state, next(&state, 8*b.Size)))
			default:
				p.setRoot(t, off*next(&state, 2))
			}
			p.fits(t, next(&state, 60))
			p.read(t, off, next(&state, 60))
		}
		p.check(t)
	}
}

// both is a model and the words of an image of the same blocks.
type both struct {
	m *model.Model
	w []uint64
}

// alloc takes what the image takes.
func (x *both) alloc(t *testing.T, n int, counts []int) {
	t.Helper()
	edits, off, err := image.Alloc(x.w, n, counts)
	fits := x.m.Fits(n)
	if (err == api.OK) != slices.Contains(fits, off) || (err == api.OK) == (len(fits) == 0) {
		t.Fatal(n, off, err, fits)
	}
	if x.m.Alloc(n, off) != (err == api.OK) {
		t.Fatal(n, off, err, x.m.Blocks())
	}
	x.w = span.Apply(x.w, edits)
}

// free gives back what the image gives back.
func (x *both) free(t *testing.T, off int) {
	t.Helper()
	edits, err := image.Free(x.w, off)
	if got := x.m.Free(off); got != err {
		t.Fatal(off, got, err, x.m.Blocks())
	}
	x.w = span.Apply(x.w, edits)
}

// write writes what the image writes.
func (x *both) write(t *testing.T, off int, b []byte) {
	t.Helper()
	edits, err := image.Write(x.w, off, b)
	if got := x.m.Write(off, b); got != err {
		t.Fatal(off, got, err, x.m.Blocks())
	}
	x.w = span.Apply(x.w, edits)
}

// check holds blocks and bytes against the image's.
func (x *both) check(t *testing.T, off, n int) {
	t.Helper()
	if l, ok := chain.Blocks(x.w); !ok || !slices.Equal(x.m.Blocks(), l) {
		t.Fatal(x.m.Blocks(), l)
	}
	want, wantErr := image.Read(x.w, off, n)
	if got, err := x.m.Read(off, n); err != wantErr || !slices.Equal(got, want) {
		t.Fatal(off, n, got, err, want, wantErr)
	}
	if image.Is(x.w, off) != (x.m.Copy().SetRoot(off) == api.OK) && off != 0 {
		t.Fatal(off, x.m.Blocks())
	}
}

// P20.3: it does what an image does, where the same blocks are taken.
func TestBesideImage(t *testing.T) {
	state := uint64(203)
	for round := range 80 {
		words := 8 + 8*next(&state, 64)
		x := &both{model.New(words), chain.First(words)}
		for range 150 {
			l := x.m.Blocks()
			b := l[next(&state, len(l))]
			off := 8*b.At + 8
			switch next(&state, 4) {
			case 0, 1:
				counts := make([]int, next(&state, 17))
				for i := range counts {
					counts[i] = next(&state, 5)
				}
				x.alloc(t, next(&state, 10+8*round%460), counts)
			case 2:
				x.free(t, off+max(0, next(&state, 12)-10))
			default:
				x.write(t, off+next(&state, 20)-2, some(&state, next(&state, 8*b.Size)))
			}
			x.check(t, off+next(&state, 9)-1, next(&state, 8*b.Size))
			x.check(t, off, min(8*b.Size-8, mostBytes))
			x.check(t, next(&state, 8*words+9), next(&state, 30))
		}
	}
}
