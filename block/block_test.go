package block_test

import (
	"math"
	"testing"

	"darning/block"
)

// These are the document's numbers, written anew.
const (
	least = 2
	most  = 512
)

// header is what a word is read as.
type header struct {
	size int
	used bool
}

// headers are all that there are, by their words, counted up: the free one of the least size is first, behind it the used one, and so on.
func headers() map[uint64]header {
	all := map[uint64]header{}
	w := uint64(4)
	for size := least; size <= most; size++ {
		all[w] = header{size, false}
		all[w+1] = header{size, true}
		w += 2
	}
	return all
}

// sizes are all that may be, those around them, and those that a smaller kind of number, or a product that goes round, would take for one that may be.
func sizes() []int {
	var all []int
	for size := -1100; size <= 1100; size++ {
		all = append(all, size)
	}
	for bit := 11; bit < 64; bit++ {
		far := 1 << bit
		for _, d := range []int{-512, -3, -2, -1, 0, 1, 2, 3, 511, 512, 513} {
			all = append(all, far+d, -far+d)
		}
	}
	return append(all, math.MinInt, math.MinInt+1, math.MinInt+2, math.MaxInt-2, math.MaxInt-1, math.MaxInt)
}

// words are all near those that are headers, and those that differ from one of them in a bit far above.
func words() []uint64 {
	var all []uint64
	for w := range uint64(5000) {
		all = append(all, w)
	}
	for bit := 10; bit < 64; bit++ {
		for _, low := range []uint64{0, 1, 2, 3, 4, 5, 6, 7, 1023, 1024, 1025, 1026, 1027} {
			all = append(all, 1<<bit|low, -(1<<bit)+low)
		}
	}
	return append(all, math.MaxUint64, math.MaxUint64-1, math.MaxInt64, math.MaxInt64-1)
}

// checkParse holds what is told of a word against what is to be read there.
func checkParse(t *testing.T, w uint64, want header, is bool) {
	t.Helper()
	if size, used, ok := block.Parse(w); ok != is || (header{size, used}) != want {
		t.Errorf("word %#x: %d %v %v, not %v %v", w, size, used, ok, want, is)
	}
}

// P13.1: a block is of 2 to 512 words.
func TestMay(t *testing.T) {
	for _, size := range sizes() {
		if got := block.May(size); got != (size >= least && size <= most) {
			t.Errorf("size %d: %v", size, got)
		}
	}
}

// P13.1: headers that are written out, the document's example among them.
func TestByHand(t *testing.T) {
	for _, x := range []struct {
		h header
		w uint64
	}{
		{header{3, true}, 7}, {header{3, false}, 6},
		{header{2, false}, 4}, {header{2, true}, 5},
		{header{8, false}, 16}, {header{16, true}, 33},
		{header{127, true}, 255}, {header{128, false}, 256}, {header{256, true}, 513},
		{header{511, false}, 1022}, {header{511, true}, 1023},
		{header{512, false}, 1024}, {header{512, true}, 1025},
	} {
		if got := block.Word(x.h.size, x.h.used); got != x.w {
			t.Errorf("%v: %d, not %d", x.h, got, x.w)
		}
		checkParse(t, x.w, x.h, true)
	}
}

// P13.1: the word of each size there may be is its own, and of another size it is 0.
func TestWord(t *testing.T) {
	words := map[header]uint64{}
	for w, h := range headers() {
		words[h] = w
	}
	for _, size := range sizes() {
		for _, used := range []bool{false, true} {
			if got := block.Word(size, used); got != words[header{size, used}] {
				t.Errorf("size %d, used %v: %#x, not %#x", size, used, got, words[header{size, used}])
			}
		}
	}
}

// P13.1: each word that is a header is read as that one, and of another one nothing is told.
func TestParse(t *testing.T) {
	all := headers()
	for _, w := range words() {
		want, is := all[w]
		checkParse(t, w, want, is)
	}
}

// P13.1: words at the edges that are no header, written out.
func TestNoHeader(t *testing.T) {
	for _, w := range []uint64{
		0, 1, 2, 3, 1026, 1027, 2048, 1 << 16, 1<<16 | 6, 1 << 32, 1<<32 | 7, 1<<33 | 6, 1<<40 | 8,
		1 << 62, 1<<62 | 7, 1 << 63, 1<<63 | 6, 1<<63 | 1025, math.MaxInt64, math.MaxUint64, math.MaxUint64 - 3,
	} {
		checkParse(t, w, header{}, false)
	}
}

// P13.1: any bit above those of the sizes makes a header into none.
func TestBitsAbove(t *testing.T) {
	for w, h := range headers() {
		for bit := 11; bit < 64; bit++ {
			checkParse(t, w|1<<bit, header{}, false)
		}
		checkParse(t, w, h, true)
	}
}

// P13.2: what is written is read as it was.
func TestReadAsWritten(t *testing.T) {
	for size := least; size <= most; size++ {
		for _, used := range []bool{false, true} {
			checkParse(t, block.Word(size, used), header{size, used}, true)
		}
	}
}

// P13.2: each word is one header, or none: no two have the same one, none has 0, and what is read of a word is written as that word.
func TestOneHeaderOrNone(t *testing.T) {
	taken := map[uint64]header{}
	for size := least; size <= most; size++ {
		for _, used := range []bool{false, true} {
			w := block.Word(size, used)
			if other, ok := taken[w]; ok || w == 0 {
				t.Errorf("size %d, used %v: %d, as %v", size, used, w, other)
			}
			taken[w] = header{size, used}
		}
	}
	read := 0
	for w := range uint64(1 << 17) {
		size, used, ok := block.Parse(w)
		if !ok {
			continue
		}
		read++
		if got := block.Word(size, used); got != w {
			t.Errorf("word %d: %d %v, which is %d", w, size, used, got)
		}
	}
	if read != len(taken) {
		t.Errorf("%d words are headers, not %d", read, len(taken))
	}
}

// P13.1: a size may be just where it has a header, and a header just where its size may be.
func TestMayAsWritten(t *testing.T) {
	for _, size := range sizes() {
		for _, used := range []bool{false, true} {
			if may := block.May(size); may != (block.Word(size, used) != 0) {
				t.Errorf("size %d, used %v: %v", size, used, may)
			}
		}
	}
	for _, w := range words() {
		if size, _, ok := block.Parse(w); ok != block.May(size) {
			t.Errorf("word %d: size %d, %v", w, size, ok)
		}
	}
}

// R6: asked again, behind others, the answers are the same.
func TestSameAgain(t *testing.T) {
	for _, w := range words() {
		block.Parse(w)
		block.Word(int(w>>1), true)
		block.May(int(w))
		if got := block.Word(3, true); got != 7 || !block.May(3) || block.May(1) {
			t.Fatalf("behind %d: %d", w, got)
		}
		checkParse(t, 7, header{3, true}, true)
		checkParse(t, 3, header{}, false)
	}
}
