package image_test

import (
	"encoding/binary"
	"math"
	"slices"
	"testing"

	"darning/api"
	"darning/chain"
	"darning/image"
	"darning/span"
)

// These are the document's numbers, written anew.
const (
	leastSize = 2
	mostWords = 512
	mostBytes = 448
)

// row is blocks of such sizes, one behind the other; those below 0 are free.
func row(sizes ...int) []api.Block {
	var l []api.Block
	at := 0
	for _, n := range sizes {
		l = append(l, api.Block{At: at, Size: max(n, -n), Used: n > 0})
		at += max(n, -n)
	}
	return l
}

// rows are all blocks that there may be in so many words.
func rows(words int) [][]api.Block {
	var all [][]api.Block
	var more func(sizes []int, left int)
	more = func(sizes []int, left int) {
		if left == 0 {
			all = append(all, row(sizes...))
		}
		for n := leastSize; n <= left; n++ {
			more(append(slices.Clone(sizes), n), left-n)
			if len(sizes) == 0 || sizes[len(sizes)-1] > 0 {
				more(append(slices.Clone(sizes), -n), left-n)
			}
		}
	}
	more(nil, words)
	return all
}

// header is the word of a block.
func header(size int, used bool) uint64 {
	if used {
		return uint64(size)*2 + 1
	}
	return uint64(size) * 2
}

// laid is the words of blocks; behind each header stands what would be a header, too, all words other ones.
func laid(l []api.Block) []uint64 {
	last := l[len(l)-1]
	w := make([]uint64, last.At+last.Size)
	for i := range w {
		w[i] = uint64(4 + i)
	}
	for _, b := range l {
		w[b.At] = header(b.Size, b.Used)
	}
	return w
}

// bare is the words of blocks of such sizes, laid.
func bare(sizes ...int) []uint64 {
	return laid(row(sizes...))
}

// noHeaps are words that are no blocks that may be.
func noHeaps() [][]uint64 {
	long := make([]uint64, 520)
	long[0], long[512] = header(512, true), header(8, true)
	return [][]uint64{
		nil, {}, {16}, make([]uint64, 8), long,
		bare(3, 4), bare(7), bare(9), // no whole lines
		bare(-4, -4), bare(3, -2, -3), bare(2, -10, -4), // two free ones side by side
		{header(9, true), 0, 0, 0, 0, 0, 0, 0}, {header(4, true), 0, 0, 0, header(5, false), 0, 0, 0}, // beyond the end
		{header(1, true), header(7, false), 0, 0, 0, 0, 0, 0}, {header(7, true), 0, 0, 0, 0, 0, 0, header(1, false)}, // of one word
		{header(8, true) + 1<<32, 0, 0, 0, 0, 0, 0, 0}, {header(8, true) + 1<<63, 0, 0, 0, 0, 0, 0, 0}, {math.MaxUint64, 0, 0, 0, 0, 0, 0, 0},
		{header(3, true), 0, 0, 0, 0, 0, 0, 0}, {0, header(7, true), 0, 0, 0, 0, 0, 0},
	}
}

// farNumbers are at the edges, and those that a smaller kind of number would take for another one.
func farNumbers() []int {
	all := []int{math.MinInt, math.MinInt + 1, math.MinInt + 8, math.MinInt + 448, math.MaxInt - 448, math.MaxInt - 447, math.MaxInt - 8, math.MaxInt - 7, math.MaxInt - 1, math.MaxInt}
	for _, bit := range []int{16, 31, 32, 33, 48, 60, 61, 62} {
		for _, d := range []int{-448, -8, -1, 0, 1, 2, 8, 16, 64, 448} {
			all = append(all, 1<<bit+d, -(1<<bit)+d)
		}
	}
	return all
}

// next is a number below n; it comes of a short rule.
func next(state *uint64, n int) int {
	*state = *state*6364136223846793005 + 1442695040888963407
	return int(*state >> 33 % uint64(n))
}

// odd are bytes of which none is 0, as long as there are no more than 80.
func odd(n int) []byte {
	b := make([]byte, n)
	for i := range b {
		b[i] = byte(250 - 3*i)
	}
	return b
}

// bytesOf lays words out as bytes, the lowest bits of each first.
func bytesOf(w []uint64) []byte {
	var b []byte
	for _, word := range w {
		b = binary.LittleEndian.AppendUint64(b, word)
	}
	return b
}

// owners tells of each byte the place of the used block behind whose header it is; -1: it is a header's, or a free block's.
func owners(l []api.Block) []int {
	var of []int
	for i, b := range l {
		for k := range 8 * b.Size {
			if b.Used && k >= 8 {
				of = append(of, i)
			} else {
				of = append(of, -1)
			}
		}
	}
	return of
}

// owner is whose a byte is, wherever it is.
func owner(of []int, off int) int {
	if off < 0 || off >= len(of) {
		return -1
	}
	return of[off]
}

// held tells whether so many bytes are one used block's, byte by byte.
func held(of []int, off, n int) bool {
	if n < 0 || n > mostBytes || off < 0 || off > len(of) {
		return false
	}
	if n == 0 {
		return owner(of, off) >= 0 || owner(of, off-1) >= 0
	}
	for k := off; k < off+n; k++ {
		if owner(of, k) < 0 || owner(of, k) != owner(of, off) {
			return false
		}
	}
	return true
}

// begins tells the place of the used block whose first byte is at off; -1: there is none.
func begins(l []api.Block, off int) int {
	for i, b := range l {
		if b.Used && off == 8*b.At+8 {
			return i
		}
	}
	return -1
}

// chosen tells the place of the free block that is taken for n bytes: of the smallest that are large enough one in the page that was written least, the first of these; -1: none is large enough.
func chosen(l []api.Block, n int, counts []int) int {
	count := func(b api.Block) int {
		if page := b.At / 32; page < len(counts) {
			return counts[page]
		}
		return 0
	}
	best := -1
	for i, b := range l {
		if b.Used || 8*b.Size-8 < n {
			continue
		}
		if best < 0 || b.Size < l[best].Size || b.Size == l[best].Size && count(b) < count(l[best]) {
			best = i
		}
	}
	return best
}

// alloced tells the edits where n bytes of a free block are taken.
func alloced(b api.Block, n int) []api.Edit {
	size := 2
	for 8*size-8 < n {
		size++
	}
	if b.Size-size < leastSize {
		size = b.Size
	}
	l := []api.Edit{{Word: b.At, Val: header(size, true)}}
	for word := b.At + 1; word < b.At+size; word++ {
		l = append(l, api.Edit{Word: word})
	}
	if size < b.Size {
		l = append(l, api.Edit{Word: b.At + size, Val: header(b.Size-size, false)})
	}
	return l
}

// freed tells the edit where the used block at a place is given back.
func freed(l []api.Block, i int) []api.Edit {
	at, size := l[i].At, l[i].Size
	if i > 0 && !l[i-1].Used {
		at = l[i-1].At
		size += l[i-1].Size
	}
	if i+1 < len(l) && !l[i+1].Used {
		size += l[i+1].Size
	}
	return []api.Edit{{Word: at, Val: header(size, false)}}
}

// checkAlloc holds the taking of n bytes of the words of those blocks against the chapter.
func checkAlloc(t *testing.T, l []api.Block, w []uint64, n int, counts []int) {
	t.Helper()
	var want []api.Edit
	wantOff, wantErr := 0, api.ErrArg
	if n >= 1 && n <= mostBytes {
		wantErr = api.ErrSpace
		if i := chosen(l, n, counts); i >= 0 {
			want, wantOff, wantErr = alloced(l[i], n), 8*l[i].At+8, api.OK
		}
	}
	got, off, err := image.Alloc(w, n, counts)
	if err != wantErr || off != wantOff || !slices.Equal(got, want) {
		t.Fatalf("%v, %d bytes, counts %v: %v %d %d, not %v %d %d", l, n, counts, got, off, err, want, wantOff, wantErr)
	}
}

// checkFree holds the giving back of the block at off against the chapter, and whether there is one.
func checkFree(t *testing.T, l []api.Block, w []uint64, off int) {
	t.Helper()
	var want []api.Edit
	wantErr := api.ErrArg
	i := begins(l, off)
	if i >= 0 {
		want, wantErr = freed(l, i), api.OK
	}
	if got, err := image.Free(w, off); err != wantErr || !slices.Equal(got, want) {
		t.Fatalf("%v, offset %d: %v %d, not %v %d", l, off, got, err, want, wantErr)
	}
	if got := image.Is(w, off); got != (i >= 0) {
		t.Fatalf("%v, offset %d: Is %v", l, off, got)
	}
}

// checkBytes holds what is told of so many bytes against the chapter: whether they are held, what they are, and how they are written.
func checkBytes(t *testing.T, l []api.Block, w []uint64, off, n int) {
	t.Helper()
	holds := held(owners(l), off, n)
	if got := image.Holds(w, off, n); got != holds {
		t.Fatalf("%v, %d bytes from %d: Holds %v", l, n, off, got)
	}
	var want []byte
	wantErr := api.ErrArg
	if holds {
		want, wantErr = bytesOf(w)[off:off+n], api.OK
	}
	if got, err := image.Read(w, off, n); err != wantErr || !slices.Equal(got, want) {
		t.Fatalf("%v, %d bytes from %d: %v %d, not %v %d", l, n, off, got, err, want, wantErr)
	}
	if n >= 0 && n <= 1<<12 {
		checkWrite(t, l, w, off, odd(n))
	}
}

// checkWrite holds the writing of bytes against the chapter: each word that has one of them, and no other one.
func checkWrite(t *testing.T, l []api.Block, w []uint64, off int, b []byte) {
	t.Helper()
	var want []api.Edit
	wantErr := api.ErrArg
	if held(owners(l), off, len(b)) {
		all := bytesOf(w)
		copy(all[off:], b)
		for i := range w {
			if len(b) > 0 && 8*i+7 >= off && 8*i < off+len(b) {
				want = append(want, api.Edit{Word: i, Val: binary.LittleEndian.Uint64(all[8*i:])})
			}
		}
		wantErr = api.OK
	}
	if got, err := image.Write(w, off, b); err != wantErr || !slices.Equal(got, want) {
		t.Fatalf("%v, %d bytes at %d: %v %d, not %v %d", l, len(b), off, got, err, want, wantErr)
	}
}

// read tells the blocks that words are; it is a fault if they are none.
func read(t *testing.T, w []uint64) []api.Block {
	t.Helper()
	l, ok := chain.Blocks(w)
	if !ok {
		t.Fatalf("no blocks: %v", w)
	}
	return l
}

// P19.1: offsets, written out.
func TestIsByHand(t *testing.T) {
	for i, x := range []struct {
		w    []uint64
		want []int
	}{
		{bare(8), []int{8}}, {bare(-8), nil}, {bare(3, -5), []int{8}}, {bare(-3, 5), []int{32}},
		{bare(3, -4, 5, -4), []int{8, 64}}, {bare(2, 2, 2, 2), []int{8, 24, 40, 56}}, {bare(-510, 2), []int{4088}},
	} {
		var got []int
		for off := -100; off < 5000; off++ {
			if image.Is(x.w, off) {
				got = append(got, off)
			}
		}
		if !slices.Equal(got, x.want) {
			t.Errorf("row %d: %v, not %v", i, got, x.want)
		}
	}
}

// P19.1: bytes of used blocks, of free ones, of headers, of two blocks, and none, written out.
func TestHoldsByHand(t *testing.T) {
	w := bare(3, -4, 5, 2, -2) // bytes 8 to 23, 64 to 95, 104 to 111
	for i, x := range []struct {
		off, n int
		want   bool
	}{
		{8, 16, true}, {8, 1, true}, {23, 1, true}, {15, 2, true}, {8, 17, false}, {7, 1, false}, {7, 2, false}, {0, 8, false}, {0, 24, false}, {23, 2, false}, {24, 1, false},
		{64, 32, true}, {95, 1, true}, {56, 8, false}, {63, 2, false}, {64, 33, false}, {64, 48, false}, {96, 8, false}, {104, 8, true}, {95, 10, false}, {111, 2, false}, {112, 1, false}, {120, 8, false},
		{8, 0, true}, {23, 0, true}, {24, 0, true}, {25, 0, false}, {7, 0, false}, {0, 0, false}, {1, 0, false},
		{63, 0, false}, {64, 0, true}, {96, 0, true}, {97, 0, false}, {103, 0, false}, {104, 0, true}, {112, 0, true}, {113, 0, false}, {120, 0, false}, {128, 0, false},
		{8, -1, false}, {24, -16, false}, {24, -1, false}, {-1, 0, false}, {-8, 16, false}, {-1, 9, false}, {-1, 2, false},
	} {
		if got := image.Holds(w, x.off, x.n); got != x.want {
			t.Errorf("row %d: %v", i, got)
		}
	}
}

// P19.1: no byte, behind the last word: the first one behind a used block, and none of a free one.
func TestHoldsAtTheEnd(t *testing.T) {
	for i, x := range []struct {
		w    []uint64
		off  int
		want bool
	}{
		{bare(8), 64, true}, {bare(8), 65, false}, {bare(-8), 64, false}, {bare(4, -4), 64, false}, {bare(-4, 4), 64, true}, {bare(512), 4096, true}, {bare(-510, 2), 4096, true}, {bare(510, -2), 4096, false},
	} {
		if got := image.Holds(x.w, x.off, 0); got != x.want {
			t.Errorf("row %d: %v", i, got)
		}
		if image.Holds(x.w, x.off, 1) {
			t.Errorf("row %d: there is no such byte", i)
		}
		if l, err := image.Write(x.w, x.off, nil); (err == api.OK) != x.want || len(l) != 0 {
			t.Errorf("row %d: %v %d", i, l, err)
		}
		if b, err := image.Read(x.w, x.off, 0); (err == api.OK) != x.want || len(b) != 0 {
			t.Errorf("row %d: %v %d", i, b, err)
		}
	}
}

// P19.1, P19.2: of all blocks that there may be in one line, all bytes, and those around them.
func TestAllBytes(t *testing.T) {
	for _, l := range rows(8) {
		w := laid(l)
		for off := -10; off <= 75; off++ {
			for n := -2; n <= 70; n++ {
				checkBytes(t, l, w, off, n)
			}
		}
	}
}

// P19.1, P19.2: of all blocks that there may be in two lines, bytes at the edges of each of them.
func TestBytesAtEdges(t *testing.T) {
	for _, l := range rows(16) {
		w := laid(l)
		for _, b := range l {
			for _, off := range []int{8*b.At + 7, 8*b.At + 8, 8 * (b.At + b.Size)} {
				for _, n := range []int{0, 8*b.Size - 8, 8*b.Size - 7} {
					checkBytes(t, l, w, off, n)
				}
			}
		}
	}
}

// P19.1, P19.2: as many bytes as one call may have, and one more, though the block has them.
func TestMostBytes(t *testing.T) {
	for _, l := range [][]api.Block{row(512), row(-2, 57, -453), row(-2, 58, -452), row(2, 56, -454), row(-300, 212)} {
		w := laid(l)
		for _, b := range l {
			for off := 8 * b.At; off < 8*b.At+20; off++ {
				for n := mostBytes - 9; n <= mostBytes+2; n++ {
					checkBytes(t, l, w, off, n)
				}
			}
		}
	}
	w := bare(512)
	if !image.Holds(w, 8, 448) || image.Holds(w, 8, 449) || !image.Holds(w, 3648, 448) || image.Holds(w, 3649, 448) {
		t.Error("448 bytes, and no more")
	}
	if l, err := image.Write(w, 8, make([]byte, 449)); err != api.ErrArg || l != nil {
		t.Error(l, err)
	}
	if l, err := image.Write(w, 8, make([]byte, 1<<20)); err != api.ErrArg || l != nil {
		t.Error(l, err)
	}
}

// P19.2: the taking of bytes, written out, the document's example first.
func TestAllocByHand(t *testing.T) {
	for i, x := range []struct {
		w      []uint64
		n      int
		counts []int
		want   []api.Edit
		off    int
	}{
		{chain.First(16), 8, nil, []api.Edit{{Word: 0, Val: 5}, {Word: 1}, {Word: 2, Val: 28}}, 8},
		{bare(-8), 1, nil, []api.Edit{{Word: 0, Val: 5}, {Word: 1}, {Word: 2, Val: 12}}, 8},
		{bare(-8), 9, nil, []api.Edit{{Word: 0, Val: 7}, {Word: 1}, {Word: 2}, {Word: 3, Val: 10}}, 8},
		{bare(5, -3), 8, nil, []api.Edit{{Word: 5, Val: 7}, {Word: 6}, {Word: 7}}, 48}, // one word left would be no block
		{bare(5, -3), 16, nil, []api.Edit{{Word: 5, Val: 7}, {Word: 6}, {Word: 7}}, 48},
		{bare(-5, 4, -4, 3), 24, nil, []api.Edit{{Word: 9, Val: 9}, {Word: 10}, {Word: 11}, {Word: 12}}, 80},
		{bare(-2, 58, -2, 2), 8, nil, []api.Edit{{Word: 0, Val: 5}, {Word: 1}}, 8},
		{bare(-2, 58, -2, 2), 8, []int{1}, []api.Edit{{Word: 60, Val: 5}, {Word: 61}}, 488},
		{bare(-2, 58, -2, 2), 8, []int{3, 3}, []api.Edit{{Word: 0, Val: 5}, {Word: 1}}, 8},
		{bare(-2, 58, -2, 2), 8, []int{3, 2, 9}, []api.Edit{{Word: 60, Val: 5}, {Word: 61}}, 488},
		{bare(-3, 57, -2, 2), 8, []int{0, 7}, []api.Edit{{Word: 60, Val: 5}, {Word: 61}}, 488}, // the smaller one, however often its page was written
	} {
		if got, off, err := image.Alloc(x.w, x.n, x.counts); err != api.OK || off != x.off || !slices.Equal(got, x.want) {
			t.Errorf("row %d: %v %d %d, not %v %d", i, got, off, err, x.want, x.off)
		}
	}
}

// P19.2: of all blocks in one line and two all numbers of bytes, and those that are none.
func TestAllAllocs(t *testing.T) {
	for _, words := range []int{8, 16} {
		for _, l := range rows(words) {
			w := laid(l)
			for n := -2; n <= 8*words+2; n++ {
				checkAlloc(t, l, w, n, nil)
			}
		}
	}
}

// P19.2: in the greatest heap, as many bytes as one call may have, where there is just room, and where there isn't.
func TestAllocMost(t *testing.T) {
	for _, l := range [][]api.Block{row(-512), row(100, -412), row(2, -57, 453), row(2, -58, 452), row(2, -56, 454), row(-56, 200, -56, 100, -57, 43), row(512)} {
		w := laid(l)
		for n := -1; n <= mostBytes+3; n++ {
			checkAlloc(t, l, w, n, nil)
		}
		for _, n := range farNumbers() {
			checkAlloc(t, l, w, n, nil)
		}
	}
	if l, off, err := image.Alloc(bare(-512), 448, nil); err != api.OK || off != 8 || len(l) != 58 {
		t.Error(l, off, err)
	}
}

// P19.2: whatever the counts are, and however many of them there are, one of the smallest is taken, in the page with the lowest.
func TestAllocByCounts(t *testing.T) {
	var sizes []int
	for range 16 {
		sizes = append(sizes, -3, 29)
	}
	l := row(sizes...)
	w := laid(l)
	state := uint64(3)
	for range 300 {
		counts := make([]int, next(&state, 20))
		for i := range counts {
			counts[i] = next(&state, 4) - 1
		}
		checkAlloc(t, l, w, 1+next(&state, 16), counts)
	}
	for _, counts := range [][]int{{math.MinInt}, {math.MaxInt, math.MaxInt}, {0, math.MinInt, math.MinInt}, make([]int, 1000000)} {
		checkAlloc(t, l, w, 8, counts)
	}
}

// P19.2: the giving back, written out.
func TestFreeByHand(t *testing.T) {
	for i, x := range []struct {
		w    []uint64
		off  int
		want api.Edit
	}{
		{bare(8), 8, api.Edit{Word: 0, Val: 16}},
		{bare(3, 5), 8, api.Edit{Word: 0, Val: 6}},
		{bare(3, 5), 32, api.Edit{Word: 3, Val: 10}},
		{bare(-3, 5), 32, api.Edit{Word: 0, Val: 16}},
		{bare(3, -5), 8, api.Edit{Word: 0, Val: 16}},
		{bare(-3, 3, -2), 32, api.Edit{Word: 0, Val: 16}},
		{bare(2, -2, 2, -2), 40, api.Edit{Word: 2, Val: 12}},
		{bare(508, -2, 2), 4088, api.Edit{Word: 508, Val: 8}},
	} {
		if got, err := image.Free(x.w, x.off); err != api.OK || !slices.Equal(got, []api.Edit{x.want}) {
			t.Errorf("row %d: %v %d, not %v", i, got, err, x.want)
		}
	}
}

// P19.1, P19.2: of all blocks in one line and two each byte is one at which a block's begin, or none.
func TestAllFrees(t *testing.T) {
	for _, words := range []int{8, 16} {
		for _, l := range rows(words) {
			w := laid(l)
			for off := -20; off <= 8*words+20; off++ {
				checkFree(t, l, w, off)
			}
		}
	}
}

// P19.1, P19.2, R1, R3: numbers whose sum would go round.
func TestFarAway(t *testing.T) {
	for _, l := range [][]api.Block{row(8), row(-8), row(512), row(3, -5), row(-200, 312)} {
		w := laid(l)
		for _, far := range farNumbers() {
			checkFree(t, l, w, far)
			for _, n := range []int{math.MinInt, math.MinInt + 64, -448, -64, -8, -1, 0, 1, 8, 56, 447, 448, 449, math.MaxInt - 63, math.MaxInt - 8, math.MaxInt} {
				checkBytes(t, l, w, far, n)
			}
			for _, off := range []int{-8, 0, 7, 8, 16, 32, 64, 1608, 4088, 4096} {
				checkBytes(t, l, w, off, far)
			}
		}
	}
}

// P19.2: reading and writing, written out.
func TestReadAndWriteByHand(t *testing.T) {
	w := []uint64{header(3, true), 0x0807060504030201, 0x1817161514131211, header(5, false), 0, 0, 0, 0}
	if b, err := image.Read(w, 8, 16); err != api.OK || !slices.Equal(b, []byte{1, 2, 3, 4, 5, 6, 7, 8, 0x11, 0x12, 0x13, 0x14, 0x15, 0x16, 0x17, 0x18}) {
		t.Error(b, err)
	}
	if b, err := image.Read(w, 15, 2); err != api.OK || !slices.Equal(b, []byte{8, 0x11}) {
		t.Error(b, err)
	}
	if l, err := image.Write(w, 15, []byte{0xaa, 0xbb}); err != api.OK || !slices.Equal(l, []api.Edit{{Word: 1, Val: 0xaa07060504030201}, {Word: 2, Val: 0x18171615141312bb}}) {
		t.Error(l, err)
	}
	if l, err := image.Write(w, 16, []byte{0x11}); err != api.OK || !slices.Equal(l, []api.Edit{{Word: 2, Val: 0x1817161514131211}}) {
		t.Error(l, err)
	}
}

// P19.2: words that are no blocks: ErrForm, whatever is asked for, but for a number of bytes that no block is taken for.
func TestNoHeap(t *testing.T) {
	for i, w := range noHeaps() {
		for _, n := range []int{1, 8, 448} {
			if l, off, err := image.Alloc(w, n, []int{1, 2}); err != api.ErrForm || off != 0 || l != nil {
				t.Error(i, n, l, off, err)
			}
		}
		for _, n := range []int{0, -1, 449, math.MaxInt, math.MinInt} {
			if l, off, err := image.Alloc(w, n, nil); err != api.ErrArg || off != 0 || l != nil {
				t.Error(i, n, l, off, err)
			}
		}
		for off := -9; off <= 80; off++ {
			if l, err := image.Free(w, off); err != api.ErrForm || l != nil || image.Is(w, off) {
				t.Error(i, off, l, err)
			}
			for _, n := range []int{-1, 0, 1, 8, 448, 449} {
				if b, err := image.Read(w, off, n); err != api.ErrForm || b != nil || image.Holds(w, off, n) {
					t.Error(i, off, n, b, err)
				}
				if l, err := image.Write(w, off, make([]byte, max(n, 0))); err != api.ErrForm || l != nil {
					t.Error(i, off, n, l, err)
				}
			}
		}
	}
}

// P19.3: what is alloc'd is blocks again, its bytes are noughts, and what is freed leaves the blocks as they were: all blocks in one line and two, all numbers of bytes.
func TestTakenAndGivenBack(t *testing.T) {
	for _, words := range []int{8, 16} {
		for _, l := range rows(words) {
			for n := 1; n <= 8*words; n++ {
				w := laid(l)
				edits, off, err := image.Alloc(w, n, nil)
				if err == api.ErrSpace {
					continue
				}
				after := span.Apply(w, edits)
				if !image.Is(after, off) || !image.Holds(after, off, n) || image.Is(w, off) {
					t.Fatal(l, n, off)
				}
				if b, err := image.Read(after, off, n); err != api.OK || !slices.Equal(b, make([]byte, n)) {
					t.Fatal(l, n, b, err)
				}
				checkOthers(t, l, w, after)
				back, err := image.Free(after, off)
				if err != api.OK || !slices.Equal(read(t, span.Apply(after, back)), l) {
					t.Fatal(l, n, back, err)
				}
			}
		}
	}
}

// checkOthers holds each used block of the words as they were against the same one of those as they are.
func checkOthers(t *testing.T, l []api.Block, was, is []uint64) {
	t.Helper()
	for _, b := range l {
		if b.Used && !slices.Equal(was[b.At:b.At+b.Size], is[b.At:b.At+b.Size]) {
			t.Fatalf("%v: %v became %v", l, was, is)
		}
	}
}

// mirror is a heap beside the words: of each offset the bytes that were written there, as many as were alloc'd.
type mirror struct {
	w    []uint64
	offs []int
	has  map[int][]byte
}

// alloc takes bytes, if there is room, and holds what is told against the chapter.
func (m *mirror) alloc(t *testing.T, n int, counts []int) {
	l := read(t, m.w)
	checkAlloc(t, l, m.w, n, counts)
	edits, off, err := image.Alloc(m.w, n, counts)
	if (err == api.OK) != (chosen(l, n, nil) >= 0) {
		t.Fatal(l, n, err)
	}
	if err == api.OK {
		m.w = span.Apply(m.w, edits)
		m.offs = append(m.offs, off)
		m.has[off] = make([]byte, n)
	}
}

// free gives the k-th block back.
func (m *mirror) free(t *testing.T, k int) {
	off := m.offs[k]
	checkFree(t, read(t, m.w), m.w, off)
	edits, _ := image.Free(m.w, off)
	m.w = span.Apply(m.w, edits)
	m.offs = slices.Delete(m.offs, k, k+1)
	delete(m.has, off)
	if image.Is(m.w, off) || image.Holds(m.w, off, 1) {
		t.Fatal(off)
	}
}

// write writes bytes of the k-th block.
func (m *mirror) write(t *testing.T, k, from int, b []byte) {
	off := m.offs[k]
	checkWrite(t, read(t, m.w), m.w, off+from, b)
	edits, err := image.Write(m.w, off+from, b)
	if err != api.OK {
		t.Fatal(off, from, len(b), err)
	}
	m.w = span.Apply(m.w, edits)
	copy(m.has[off][from:], b)
}

// check holds all bytes of all blocks against those that were written, and the blocks against those that were alloc'd.
func (m *mirror) check(t *testing.T) {
	t.Helper()
	used := 0
	for _, b := range read(t, m.w) {
		if b.Used {
			used++
		}
	}
	if used != len(m.offs) {
		t.Fatal(used, m.offs)
	}
	for _, off := range m.offs {
		want := m.has[off]
		if got, err := image.Read(m.w, off, len(want)); err != api.OK || !slices.Equal(got, want) {
			t.Fatal(off, got, want, err)
		}
	}
}

// P19.3: in long runs the words are blocks, what is written is what is read, whatever other blocks is done in; when all is freed, it is one free block.
func TestLongRuns(t *testing.T) {
	state := uint64(19)
	for round := range 60 {
		words := 8 + 8*next(&state, 64)
		m := &mirror{w: chain.First(words), has: map[int][]byte{}}
		for range 150 {
			counts := make([]int, next(&state, 17))
			for i := range counts {
				counts[i] = next(&state, 5)
			}
			switch k := next(&state, 4); {
			case k < 2 || len(m.offs) == 0:
				m.alloc(t, 1+next(&state, 8+8*round%mostBytes), counts)
			case k == 2:
				m.free(t, next(&state, len(m.offs)))
			default:
				at := next(&state, len(m.offs))
				size := len(m.has[m.offs[at]])
				from := next(&state, size+1)
				b := make([]byte, next(&state, size-from+1))
				for i := range b {
					b[i] = byte(next(&state, 256))
				}
				m.write(t, at, from, b)
			}
			m.check(t)
		}
		for len(m.offs) > 0 {
			m.free(t, next(&state, len(m.offs)))
			m.check(t)
		}
		if !slices.Equal(read(t, m.w), row(-words)) {
			t.Fatal(m.w)
		}
	}
}

// P19.3: bytes that are like headers are bytes.
func TestBytesLikeHeaders(t *testing.T) {
	w := bare(3, 5)
	for k, word := range []uint64{header(2, false), header(8, true), header(512, false), 0, math.MaxUint64} {
		edits, err := image.Write(w, 8, binary.LittleEndian.AppendUint64(nil, word))
		if err != api.OK {
			t.Fatal(k, err)
		}
		after := span.Apply(w, edits)
		if !slices.Equal(read(t, after), row(3, 5)) || image.Is(after, 16) {
			t.Error(k, after)
		}
		checkOthers(t, row(-3, 5), w, after)
		back, _ := image.Free(after, 8)
		if !slices.Equal(read(t, span.Apply(after, back)), row(-3, 5)) {
			t.Error(k, back)
		}
	}
}

// R3: as many words, counts and bytes as there are, it ends.
func TestMany(t *testing.T) {
	w := make([]uint64, 1000000)
	for i := range w {
		w[i] = header(2, true)
	}
	if _, _, err := image.Alloc(w, 8, make([]int, len(w))); err != api.ErrForm {
		t.Error(err)
	}
	if _, err := image.Write(w, 8, make([]byte, len(w))); err != api.ErrForm {
		t.Error(err)
	}
	full := row(slices.Repeat([]int{2}, 256)...)
	checkAlloc(t, full, laid(full), 1, nil)
	checkFree(t, full, laid(full), 4088)
	checkBytes(t, full, laid(full), 4088, 8)
	checkBytes(t, full, laid(full), 4080, 8)
}

// R2: nothing that is handed in is changed, and what is behind its length is neither read nor written.
func TestHandedIn(t *testing.T) {
	l := row(3, -5, 2, -4, 2)
	w, counts, b := laid(l), []int{4, 0, 9}, odd(30)
	wasW, wasCounts, wasB := slices.Clone(w), slices.Clone(counts), slices.Clone(b)
	checkAlloc(t, l[:2], w[:8], 33, counts[:1])
	checkAlloc(t, l[:2], w[:8], 32, counts[:1])
	checkAlloc(t, l, w, 24, counts)
	checkFree(t, l[:2], w[:8], 72)
	checkFree(t, l[:2], w[:8], 8)
	checkFree(t, l, w, 72)
	for off := range 130 {
		for n := range 20 {
			checkBytes(t, l, w, off, n)
			checkBytes(t, l[:2], w[:8], off, n)
			checkWrite(t, l, w, off, b[:n])
		}
	}
	two := row(-2, 58, -2, 2)
	checkAlloc(t, two, laid(two), 8, []int{1, 2, 0}[:1])
	if _, _, err := image.Alloc(w[:0], 8, nil); err != api.ErrForm {
		t.Error(err)
	}
	if !slices.Equal(w, wasW) || !slices.Equal(counts, wasCounts) || !slices.Equal(b, wasB) {
		t.Error(w, counts, b)
	}
}

// R2: what is told is new memory.
func TestNewMemory(t *testing.T) {
	w, put := bare(3, -5), odd(16)
	was, wasPut := slices.Clone(w), slices.Clone(put)
	taken, _, _ := image.Alloc(w, 8, nil)
	back, _ := image.Free(w, 8)
	written, _ := image.Write(w, 8, put)
	got, _ := image.Read(w, 8, 16)
	wantTaken, wantBack, wantWritten, wantGot := slices.Clone(taken), slices.Clone(back), slices.Clone(written), slices.Clone(got)
	clear(w)
	clear(put)
	if !slices.Equal(taken, wantTaken) || !slices.Equal(back, wantBack) || !slices.Equal(written, wantWritten) || !slices.Equal(got, wantGot) {
		t.Error(taken, back, written, got)
	}
	copy(w, was)
	copy(put, wasPut)
	clear(taken[:cap(taken)])
	clear(back[:cap(back)])
	clear(written[:cap(written)])
	clear(got[:cap(got)])
	if !slices.Equal(w, was) || !slices.Equal(put, wasPut) {
		t.Error(w, put)
	}
}

// R6: asked again, behind others, the answers are the same.
func TestSameAgain(t *testing.T) {
	l := row(3, -5)
	for _, other := range append(noHeaps(), bare(8), bare(-8), bare(-2, 58, -2, 2)) {
		image.Alloc(other, 8, []int{9, 1})
		image.Free(other, 8)
		image.Write(other, 8, odd(8))
		image.Read(other, 8, 8)
		checkAlloc(t, l, laid(l), 8, nil)
		checkFree(t, l, laid(l), 8)
		checkBytes(t, l, laid(l), 8, 16)
		checkBytes(t, l, laid(l), 8, 17)
	}
}
