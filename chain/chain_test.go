package chain_test

import (
	"math"
	"slices"
	"testing"

	"darning/api"
	"darning/block"
	"darning/chain"
)

// These are the document's numbers, written anew.
const (
	leastWords, mostWords = 8, 512
	leastSize, mostSize   = 2, 512
	mostBlocks            = 512
)

// row is blocks of such sizes, one behind the other; those below 0 are free.
func row(sizes ...int) []api.Block {
	var l []api.Block
	at := 0
	for _, n := range sizes {
		l = append(l, api.Block{At: at, Size: max(n, -n), Used: n > 0})
		at += max(n, -n)
	}
	return l
}

// laid is words that have the headers of blocks, and behind each of them what would be a header, too.
func laid(words int, l []api.Block) []uint64 {
	w := make([]uint64, words)
	for i := range w {
		w[i] = uint64(4 + i%7)
	}
	for _, b := range l {
		w[b.At] = uint64(b.Size) * 2
		if b.Used {
			w[b.At]++
		}
	}
	return w
}

// rows are all blocks that there may be in so many words.
func rows(words int) [][]api.Block {
	var all [][]api.Block
	var more func(sizes []int, left int)
	more = func(sizes []int, left int) {
		if left == 0 {
			all = append(all, row(sizes...))
		}
		for n := leastSize; n <= left; n++ {
			more(append(slices.Clone(sizes), n), left-n)
			if len(sizes) == 0 || sizes[len(sizes)-1] > 0 {
				more(append(slices.Clone(sizes), -n), left-n)
			}
		}
	}
	more(nil, words)
	return all
}

// mayWords is what the chapter says of how many words there may be.
func mayWords(words int) bool {
	for n := leastWords; n <= mostWords; n += 8 {
		if n == words {
			return true
		}
	}
	return false
}

// mayBe paints each block's words: each word is to be painted by one block, in their order.
func mayBe(l []api.Block, words int) bool {
	if !mayWords(words) {
		return false
	}
	painted := make([]int, words)
	for i, b := range l {
		if b.Size < leastSize || b.Size > mostSize || b.At < 0 || b.At > words-b.Size {
			return false
		}
		if i > 0 && (l[i-1].At >= b.At || !l[i-1].Used && !b.Used) {
			return false
		}
		for word := b.At; word < b.At+b.Size; word++ {
			painted[word]++
		}
	}
	for _, n := range painted {
		if n != 1 {
			return false
		}
	}
	return true
}

// farNumbers are at the edges, and those that a smaller kind of number would take for another one.
func farNumbers() []int {
	all := []int{math.MinInt, math.MinInt + 1, math.MinInt + 8, math.MaxInt - 8, math.MaxInt - 7, math.MaxInt - 1, math.MaxInt}
	for _, bit := range []int{8, 16, 31, 32, 33, 48, 61, 62} {
		for _, d := range []int{-8, -1, 0, 1, 2, 3, 8, 16} {
			all = append(all, 1<<bit+d, -(1<<bit)+d)
		}
	}
	return all
}

// numbers are ordinary ones, those at the edges, and far ones.
func numbers() []int {
	all := farNumbers()
	for n := -20; n <= 40; n++ {
		all = append(all, n)
	}
	return append(all, 255, 256, 504, 510, 511, 512, 513, 514, 520)
}

// checkMay holds what is told of blocks against what the painting tells.
func checkMay(t *testing.T, l []api.Block, words int) {
	t.Helper()
	if got, want := chain.May(l, words), mayBe(l, words); got != want {
		t.Errorf("%v in %d words: %v, not %v", l, words, got, want)
	}
}

// checkBlocks holds the blocks that words are read as against those there are; nil says that there are none.
func checkBlocks(t *testing.T, w []uint64, want []api.Block) {
	t.Helper()
	if got, ok := chain.Blocks(w); ok != (want != nil) || !slices.Equal(got, want) {
		t.Errorf("%v: %v %v, not %v", w, got, ok, want)
	}
}

// checkSums holds the words of the free blocks, and of the greatest one, against those there are.
func checkSums(t *testing.T, l []api.Block, free, most int) {
	t.Helper()
	if gotFree, gotMost := chain.Free(l), chain.Most(l); gotFree != free || gotMost != most {
		t.Errorf("%v: %d, %d, not %d, %d", l, gotFree, gotMost, free, most)
	}
}

// P14.1: the words of a heap of one free block are its header and noughts, the document's example among them; of other numbers of words there is nothing.
func TestFirst(t *testing.T) {
	if got := chain.First(16); !slices.Equal(got, []uint64{32, 0, 0, 0, 0, 0, 0, 0, 0, 0, 0, 0, 0, 0, 0, 0}) {
		t.Error(got)
	}
	asked := numbers()
	for n := -1100; n <= 1100; n++ {
		asked = append(asked, n)
	}
	for _, n := range asked {
		var want []uint64
		if mayWords(n) {
			want = make([]uint64, n)
			want[0] = uint64(n) * 2
		}
		if got := chain.First(n); !slices.Equal(got, want) {
			t.Errorf("%d words: %v", n, got)
		}
	}
}

// P14.1, P14.2: what is laid first is one free block of all words.
func TestFirstIsOneBlock(t *testing.T) {
	for n := leastWords; n <= mostWords; n += 8 {
		l := []api.Block{{At: 0, Size: n}}
		checkBlocks(t, chain.First(n), l)
		checkMay(t, l, n)
		checkSums(t, l, n, n)
	}
}

// P14.1: blocks written out, and whether they may be.
func TestMayByHand(t *testing.T) {
	for i, x := range []struct {
		l     []api.Block
		words int
		may   bool
	}{
		{row(3, -5), 8, true}, {row(-3, 5), 8, true}, {row(8), 8, true}, {row(-8), 8, true},
		{row(2, 2, 2, 2), 8, true}, {row(-2, 2, -2, 2), 8, true},
		{row(512), 512, true}, {row(-512), 512, true}, {row(510, -2), 512, true}, {row(-2, 510), 512, true},
		{row(-3, -5), 8, false}, {row(2, -2, -2, 2), 8, false}, {row(2, 2, -2, -2), 8, false},
		{row(3, 4), 8, false}, {row(3, 6), 8, false}, {row(8), 16, false}, {row(16), 8, false},
		{row(7, 1), 8, false}, {row(1, 7), 8, false}, {row(8, 0), 8, false}, {row(0, 8), 8, false},
		{nil, 8, false}, {nil, 0, false}, {row(), 512, false},
		{row(3, 4), 7, false}, {row(4, 5), 9, false}, {row(4, 8), 12, false}, {row(4), 4, false}, {row(510, 10), 520, false}, {row(513), 513, false},
		{[]api.Block{{At: 1, Size: 3, Used: true}, {At: 4, Size: 4}}, 8, false},
		{[]api.Block{{At: 0, Size: 3, Used: true}, {At: 4, Size: 5}}, 8, false},
		{[]api.Block{{At: 0, Size: 3, Used: true}, {At: 2, Size: 5}}, 8, false},
		{[]api.Block{{At: 3, Size: 5}, {At: 0, Size: 3, Used: true}}, 8, false},
		{[]api.Block{{At: -8, Size: 8, Used: true}, {At: 0, Size: 8}}, 8, false},
	} {
		if got := chain.May(x.l, x.words); got != x.may {
			t.Errorf("row %d: %v", i, got)
		}
		checkMay(t, x.l, x.words)
	}
}

// P14.1: all blocks that there may be in one line and two may be, of no other number of words.
func TestMayAll(t *testing.T) {
	for _, words := range []int{8, 16} {
		for _, l := range rows(words) {
			if !chain.May(l, words) || chain.May(l, words-8) || chain.May(l, words+8) || chain.May(l, words-1) || chain.May(l, words+1) || chain.May(l, -words) {
				t.Fatal(words, l)
			}
		}
	}
	for _, words := range numbers() {
		checkMay(t, row(3, -5), words)
		checkMay(t, row(-16), words)
		checkMay(t, row(512), words)
		checkMay(t, nil, words)
		checkMay(t, row(words), words)
	}
}

// P14.1, R1: one number of one block is another one.
func TestMayOneOff(t *testing.T) {
	for _, l := range rows(8) {
		for i := range l {
			for _, n := range numbers() {
				at, size := slices.Clone(l), slices.Clone(l)
				at[i].At, size[i].Size = n, n
				checkMay(t, at, 8)
				checkMay(t, size, 8)
			}
			used, lacks, twice := slices.Clone(l), slices.Delete(slices.Clone(l), i, i+1), slices.Insert(slices.Clone(l), i, l[i])
			used[i].Used = !used[i].Used
			checkMay(t, used, 8)
			checkMay(t, lacks, 8)
			checkMay(t, twice, 8)
			turned := slices.Clone(l)
			slices.Reverse(turned)
			checkMay(t, turned, 8)
		}
	}
}

// P14.1, R1: sizes the sum of which would go round to the number of words.
func TestMayNoRound(t *testing.T) {
	for i, l := range [][]api.Block{
		{{At: 0, Size: math.MaxInt, Used: true}, {At: math.MaxInt, Size: math.MaxInt, Used: true}, {At: -2, Size: 10, Used: true}},
		{{At: 0, Size: math.MinInt, Used: true}, {At: math.MinInt, Size: math.MinInt, Used: true}, {At: 0, Size: 8, Used: true}},
		{{At: 0, Size: 16, Used: true}, {At: 16, Size: -8, Used: true}},
		{{At: 0, Size: 8, Used: true}, {At: 8, Size: 0, Used: true}},
		{{At: 0, Size: 1<<32 + 8}},
		{{At: 1 << 32, Size: 8}},
	} {
		if chain.May(l, 8) {
			t.Errorf("row %d", i)
		}
	}
	if chain.May(slices.Repeat(row(8), 100000), 8) || chain.May(row(slices.Repeat([]int{2}, 100000)...), 512) {
		t.Error("many blocks")
	}
}

// P14.2: all blocks that there may be in one line and two are read as they stand, whatever is between the headers.
func TestBlocks(t *testing.T) {
	for _, words := range []int{8, 16} {
		for _, l := range rows(words) {
			checkBlocks(t, laid(words, l), l)
		}
	}
	for i, l := range [][]api.Block{row(512), row(-512), row(510, -2), row(-2, 510), row(slices.Repeat([]int{2}, 256)...), row(slices.Repeat([]int{-2, 2}, 128)...), row(-100, 7, 300, -105)} {
		w := laid(512, l)
		checkBlocks(t, w, l)
		if got := w[l[len(l)-1].At]; got != block.Word(l[len(l)-1].Size, l[len(l)-1].Used) {
			t.Errorf("row %d: header %d", i, got)
		}
	}
}

// P14.2: words written out that are no blocks, and some that are.
func TestBlocksByHand(t *testing.T) {
	for _, x := range []struct {
		w    []uint64
		want []api.Block
	}{
		{[]uint64{7, 1, 2, 10, 3, 4, 5, 6}, row(3, -5)},
		{[]uint64{6, 0, 0, 11, 0, 0, 0, 0}, row(-3, 5)},
		{[]uint64{17, 0, 0, 0, 0, 0, 0, 0}, row(8)},
		{[]uint64{5, math.MaxUint64, 4, 0, 5, 3, 4, 1}, row(2, -2, 2, -2)},
		{nil, nil}, {[]uint64{}, nil},
		{[]uint64{0, 0, 0, 0, 0, 0, 0, 0}, nil},              // no header
		{[]uint64{3, 0, 0, 0, 0, 0, 0, 0}, nil},              // a block of one word
		{[]uint64{6, 0, 0, 10, 0, 0, 0, 0}, nil},             // two free ones
		{[]uint64{5, 0, 4, 0, 4, 0, 5, 0}, nil},              // likewise, between used ones
		{[]uint64{7, 1, 2, 12, 3, 4, 5, 6}, nil},             // past the end
		{[]uint64{7, 1, 2, 8, 3, 4, 5, 0}, nil},              // one word is left, which is no header
		{[]uint64{7, 1, 2, 8, 3, 4, 5, 5}, nil},              // the last word is one, of a block past the end
		{[]uint64{1025, 0, 0, 0, 0, 0, 0, 0}, nil},           // far past the end
		{[]uint64{7, 1, 2, 1<<63 | 10, 3, 4, 5, 6}, nil},     // a bit far above
		{[]uint64{1<<32 | 17, 0, 0, 0, 0, 0, 0, 0}, nil},     // likewise
		{[]uint64{5, 0, 7, 0, 0, 3, 4, 5}, nil},              // a header behind two that isn't one
		{[]uint64{15, 0, 0, 0, 0, 0, 0}, nil},                // seven words
		{[]uint64{19, 0, 0, 0, 0, 0, 0, 0, 0}, nil},          // nine
		{[]uint64{17, 0, 0, 0, 0, 0, 0, 0, 4, 0}, nil},       // ten
		{[]uint64{9, 0, 0, 0, 17, 0, 0, 0, 0, 0, 0, 0}, nil}, // twelve
		{[]uint64{17}, nil}, {[]uint64{3}, nil}, {[]uint64{5, 0}, nil}, {[]uint64{9, 0, 0, 0}, nil},
	} {
		checkBlocks(t, x.w, x.want)
	}
}

// P14.2: a heap of too many words is none, though its headers are.
func TestBlocksTooMany(t *testing.T) {
	for _, sizes := range [][]int{{500, 20}, {512, 8}, {8, 512}, {512, -512}, {512, 512, 512, 2, 6}} {
		l := row(sizes...)
		last := l[len(l)-1]
		checkBlocks(t, laid(last.At+last.Size, l), nil)
	}
	checkBlocks(t, laid(200000, row(slices.Repeat([]int{2}, 100000)...)), nil)
}

// P14.2: each header that is none, or another one, makes blocks into none, or others that may be.
func TestBlocksOneHeaderOff(t *testing.T) {
	for _, l := range rows(8) {
		for i, b := range l {
			for _, bad := range []uint64{0, 1, 2, 3, 1026, 1027, 1 << 20, 1 << 63, 1<<40 | 17, math.MaxUint64} {
				w := laid(8, l)
				w[b.At] = bad
				checkBlocks(t, w, nil)
			}
			for size := leastSize; size <= 12; size++ {
				for _, used := range []bool{false, true} {
					w := laid(8, l)
					w[b.At] = block.Word(size, used)
					checkBlocks(t, w, walked(w, slices.Clone(l[:i])))
				}
			}
		}
	}
}

// walked tells the blocks that words are, if the first ones are known to be those; nil, if they are none.
func walked(w []uint64, l []api.Block) []api.Block {
	at := 0
	for _, b := range l {
		at += b.Size
	}
	if at == len(w) && mayBe(l, len(w)) {
		return l
	}
	if at >= len(w) {
		return nil
	}
	size, used, ok := block.Parse(w[at])
	if !ok {
		return nil
	}
	return walked(w, append(l, api.Block{At: at, Size: size, Used: used}))
}

// P14.3: each word is in one block, and At tells its place; no word outside is in one.
func TestEachWordInOne(t *testing.T) {
	for _, words := range []int{8, 16} {
		for _, l := range rows(words) {
			owner := make([]int, words)
			for i, b := range l {
				for word := b.At; word < b.At+b.Size; word++ {
					owner[word] = i
				}
			}
			for word, want := range owner {
				if got := chain.At(l, word); got != want {
					t.Fatalf("%v: word %d in %d", l, word, got)
				}
			}
			for _, word := range append(farNumbers(), -2, -1, words, words+1, words+8) {
				if got := chain.At(l, word); (word < 0 || word >= words) && got != -1 {
					t.Fatalf("%v: word %d in %d", l, word, got)
				}
			}
		}
	}
}

// P14.2: the places of words, written out; of the most blocks there may be, too, and of some that aren't side by side.
func TestAtByHand(t *testing.T) {
	apart := []api.Block{{At: 2, Size: 3}, {At: 7, Size: 2, Used: true}, {At: 9, Size: 4}}
	many := row(slices.Repeat([]int{2}, 1000)...)
	for i, x := range []struct {
		l          []api.Block
		word, want int
	}{
		{row(3, -5), 0, 0}, {row(3, -5), 2, 0}, {row(3, -5), 3, 1}, {row(3, -5), 7, 1}, {row(3, -5), 8, -1}, {row(3, -5), -1, -1},
		{nil, 0, -1}, {nil, -1, -1}, {row(512), 511, 0}, {row(512), 512, -1},
		{apart, 1, -1}, {apart, 2, 0}, {apart, 4, 0}, {apart, 5, -1}, {apart, 6, -1}, {apart, 7, 1}, {apart, 8, 1}, {apart, 9, 2}, {apart, 12, 2}, {apart, 13, -1},
		{many, 0, 0}, {many, 511, 255}, {many, 1023, 511}, {many, 1024, 512}, {many, 1999, 999}, {many, 2000, -1},
	} {
		if got := chain.At(x.l, x.word); got != x.want {
			t.Errorf("row %d: %d", i, got)
		}
	}
}

// P14.2, R1, R3: words and blocks far away: no sum of an At and a Size goes round.
func TestAtFarAway(t *testing.T) {
	for i, x := range []struct {
		b        api.Block
		word     int
		isWithin bool
	}{
		{api.Block{At: 0, Size: math.MaxInt}, math.MaxInt - 1, true},
		{api.Block{At: 0, Size: math.MaxInt}, math.MaxInt, false},
		{api.Block{At: 3, Size: math.MaxInt}, 2, false},
		{api.Block{At: 3, Size: math.MaxInt}, math.MaxInt, true},
		{api.Block{At: math.MaxInt - 3, Size: 512}, math.MaxInt, true},
		{api.Block{At: math.MaxInt - 3, Size: 3}, math.MaxInt, false},
		{api.Block{At: math.MaxInt - 3, Size: 4}, math.MinInt, false},
		{api.Block{At: math.MaxInt - 3, Size: 512}, math.MinInt, false},
		{api.Block{At: math.MinInt, Size: 4}, math.MaxInt, false},
		{api.Block{At: math.MinInt, Size: math.MaxInt}, 8, false},
		{api.Block{At: 5, Size: 0}, 5, false},
		{api.Block{At: 5, Size: -2}, 4, false},
		{api.Block{At: 5, Size: -2}, 5, false},
		{api.Block{At: 5, Size: -2}, 6, false},
		{api.Block{At: 0, Size: math.MinInt}, 0, false},
		{api.Block{At: -1, Size: math.MinInt}, math.MaxInt, false},
		{api.Block{At: 0, Size: 1 << 62}, 1 << 61, true},
	} {
		if got := chain.At([]api.Block{x.b}, x.word); got != -1 != x.isWithin {
			t.Errorf("row %d: %d", i, got)
		}
	}
}

// P14.2: the words of all free blocks, and of the greatest one.
func TestSums(t *testing.T) {
	for _, l := range rows(16) {
		free, most := 0, 0
		for _, b := range l {
			if !b.Used {
				free += b.Size
				most = max(most, b.Size)
			}
		}
		checkSums(t, l, free, most)
	}
	checkSums(t, row(3, -5), 5, 5)
	checkSums(t, row(-4, 2, -3, 5, -2), 9, 4)
	checkSums(t, row(2, -3, 2, -9), 12, 9)
	checkSums(t, row(16), 0, 0)
	checkSums(t, nil, 0, 0)
}

// P14.2: blocks that may not be side by side are summed up all the same, but not more than 512 of them.
func TestSumsOfMany(t *testing.T) {
	checkSums(t, row(-4, -4, 8), 8, 4)
	checkSums(t, slices.Repeat(row(-7), 3), 21, 7)
	checkSums(t, []api.Block{{At: math.MinInt, Size: 4}, {At: math.MaxInt, Size: 9}}, 13, 9)
	for _, size := range []int{leastSize, 3, mostSize} {
		checkSums(t, slices.Repeat(row(-size), mostBlocks-1), (mostBlocks-1)*size, size)
		checkSums(t, slices.Repeat(row(-size), mostBlocks), mostBlocks*size, size)
		checkSums(t, slices.Repeat(row(-size), mostBlocks+1), 0, 0)
		checkSums(t, slices.Repeat(row(-size), 3*mostBlocks), 0, 0)
	}
	checkSums(t, append(slices.Repeat(row(2), mostBlocks-1), row(-5)...), 5, 5)
	checkSums(t, append(slices.Repeat(row(2), mostBlocks), row(-5)...), 0, 0)
}

// P14.2: no sum is told where one size, of a free block or a used one, first or last, may not be.
func TestSumsOfNone(t *testing.T) {
	for _, size := range numbers() {
		for _, used := range []bool{false, true} {
			odd := api.Block{Size: size, Used: used}
			free, most := 0, 0
			if size >= leastSize && size <= mostSize {
				free, most = 5, 5
				if !used {
					free, most = 5+size, max(5, size)
				}
			}
			checkSums(t, append(row(-5), odd), free, most)
			checkSums(t, append([]api.Block{odd}, row(-5)...), free, most)
			checkSums(t, append(row(2, -5), odd, api.Block{Size: 4, Used: true}), free, most)
		}
	}
}

// R2: nothing that is handed in is changed, nothing behind its length is read or written.
func TestHandedIn(t *testing.T) {
	wide := append(laid(16, row(3, -5, 8)), 4, 4)
	kept := slices.Clone(wide)
	checkBlocks(t, wide[:8], row(3, -5))
	checkBlocks(t, wide[:16], row(3, -5, 8))
	checkBlocks(t, wide[:2], nil)
	if !slices.Equal(wide, kept) {
		t.Error(wide)
	}
	l := row(3, -5, 8, -2)
	was := slices.Clone(l)
	if !chain.May(l[:2], 8) || !chain.May(l[:3], 16) || chain.May(l[:1], 8) || chain.At(l[:2], 9) != -1 {
		t.Error("behind the length")
	}
	checkSums(t, l[:1], 0, 0)
	checkSums(t, l[:3], 5, 5)
	if !slices.Equal(l, was) {
		t.Error(l)
	}
}

// R2, R6: what is told is new memory, and asked again, behind others, it is the same.
func TestSameAgain(t *testing.T) {
	w := laid(16, row(3, -5, 8))
	l, _ := chain.Blocks(w)
	first := chain.First(16)
	clear(l[:cap(l)])
	clear(first[:cap(first)])
	checkBlocks(t, w, row(3, -5, 8))
	checkBlocks(t, chain.First(16), row(-16))
	l, _ = chain.Blocks(w)
	clear(w)
	if !slices.Equal(l, row(3, -5, 8)) {
		t.Error(l)
	}
	checkBlocks(t, w, nil)
}
