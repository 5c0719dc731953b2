package carve_test

import (
	"math"
	"slices"
	"testing"

	"darning/api"
	"darning/carve"
	"darning/chain"
	"darning/fit"
)

// These are the document's numbers, written anew.
const (
	leastSize = 2
	mostWords = 512
	mostNeed  = 57
)

// row is blocks of such sizes, one behind the other; those below 0 are free.
func row(sizes ...int) []api.Block {
	var l []api.Block
	at := 0
	for _, n := range sizes {
		l = append(l, api.Block{At: at, Size: max(n, -n), Used: n > 0})
		at += max(n, -n)
	}
	return l
}

// sizes is what row makes such blocks of.
func sizes(l []api.Block) []int {
	var all []int
	for _, b := range l {
		n := b.Size
		if !b.Used {
			n = -n
		}
		all = append(all, n)
	}
	return all
}

// rows are all blocks that there may be in so many words.
func rows(words int) [][]api.Block {
	var all [][]api.Block
	var more func(sizes []int, left int)
	more = func(sizes []int, left int) {
		if left == 0 {
			all = append(all, row(sizes...))
		}
		for n := leastSize; n <= left; n++ {
			more(append(slices.Clone(sizes), n), left-n)
			if len(sizes) == 0 || sizes[len(sizes)-1] > 0 {
				more(append(slices.Clone(sizes), -n), left-n)
			}
		}
	}
	more(nil, words)
	return all
}

// laid is words that have the headers of blocks, and behind each of them what would be a header, too.
func laid(words int, l []api.Block) []uint64 {
	w := make([]uint64, words)
	for i := range w {
		w[i] = uint64(4 + i%7)
	}
	for _, b := range l {
		w[b.At] = header(b.Size, b.Used)
	}
	return w
}

// header is the word of a block.
func header(size int, used bool) uint64 {
	if used {
		return uint64(size)*2 + 1
	}
	return uint64(size) * 2
}

// from is edits of words side by side.
func from(word int, vals ...uint64) []api.Edit {
	var edits []api.Edit
	for k, v := range vals {
		edits = append(edits, api.Edit{Word: word + k, Val: v})
	}
	return edits
}

// edited is words in which edits are done.
func edited(w []uint64, edits []api.Edit) []uint64 {
	w = slices.Clone(w)
	for _, e := range edits {
		w[e.Word] = e.Val
	}
	return w
}

// farNumbers are at the edges, and those that a smaller kind of number would take for another one.
func farNumbers() []int {
	all := []int{math.MinInt, math.MinInt + 1, math.MinInt + 8, math.MaxInt - 8, math.MaxInt - 7, math.MaxInt - 1, math.MaxInt}
	for _, bit := range []int{8, 16, 31, 32, 33, 48, 60, 61, 62} {
		for _, d := range []int{-8, -1, 0, 1, 2, 3, 8, 16} {
			all = append(all, 1<<bit+d, -(1<<bit)+d)
		}
	}
	return all
}

// next is a number below n; it comes of a short rule.
func next(state *uint64, n int) int {
	*state = *state*6364136223846793005 + 1442695040888963407
	return int(*state >> 33 % uint64(n))
}

// taken lays all blocks anew, with what becomes of the i-th one in its place; nil, if it is not free, or is too small. The blocks are ones that may be.
func taken(l []api.Block, i, need int) []api.Block {
	if i < 0 || i >= len(l) || l[i].Used || need < leastSize || need > l[i].Size {
		return nil
	}
	size := l[i].Size
	became := []int{need, need - size}
	if size == need || size == need+1 {
		became = []int{size}
	}
	all := sizes(l)
	return row(slices.Replace(all, i, i+1, became...)...)
}

// written is the edits by which the blocks of want come of l: word by word, in what was the i-th one.
func written(l, want []api.Block, i int) []api.Edit {
	if want == nil {
		return nil
	}
	var edits []api.Edit
	for word := l[i].At; word < want[i].At+want[i].Size; word++ {
		edits = append(edits, api.Edit{Word: word})
	}
	edits[0].Val = header(want[i].Size, true)
	if len(want) > len(l) {
		edits = append(edits, api.Edit{Word: want[i+1].At, Val: header(want[i+1].Size, false)})
	}
	return edits
}

// check holds the blocks behind a taking, and its edits, against the chapter; want is nil, if there is to be none.
func check(t *testing.T, l []api.Block, i, need int, want []api.Block) {
	t.Helper()
	if got, ok := carve.Blocks(l, i, need); ok != (want != nil) || !slices.Equal(got, want) {
		t.Fatalf("%v, place %d, need %d: %v %v, not %v", l, i, need, got, ok, want)
	}
	if got, want := carve.Edits(l, i, need), written(l, want, i); !slices.Equal(got, want) {
		t.Fatalf("%v, place %d, need %d: edits %v, not %v", l, i, need, got, want)
	}
}

// checkWords edits words, and holds them against the blocks they shall be: of what was the free block the used one is noughts behind its header, and all else stays.
func checkWords(t *testing.T, l []api.Block, i, need int, w []uint64) {
	t.Helper()
	want, ok := carve.Blocks(l, i, need)
	if !ok {
		t.Fatalf("%v, place %d, need %d: no", l, i, need)
	}
	got := edited(w, carve.Edits(l, i, need))
	if read, ok := chain.Blocks(got); !ok || !slices.Equal(read, want) {
		t.Fatalf("%v, place %d, need %d: the words are %v %v, not %v", l, i, need, read, ok, want)
	}
	used := want[i]
	for word, now := range got {
		switch {
		case word == used.At || word == used.At+used.Size && used.Size < l[i].Size: // the headers were read above
		case word > used.At && word < used.At+used.Size:
			if now != 0 {
				t.Fatalf("%v, place %d, need %d: word %d is %d", l, i, need, word, now)
			}
		case now != w[word]:
			t.Fatalf("%v, place %d, need %d: word %d is %d, not %d", l, i, need, word, now, w[word])
		}
	}
}

// P16.1: offsets, written out, and of all places there are.
func TestOff(t *testing.T) {
	for at, want := range map[int]int{0: 8, 1: 16, 3: 32, 5: 48, 510: 4088, 511: 4096, 512: 4104, 513: 0, 514: 0, -1: 0, -2: 0} {
		if got := carve.Off(api.Block{At: at, Size: 2, Used: true}); got != want {
			t.Errorf("at %d: %d", at, got)
		}
	}
	want := 0
	for at := 0; at <= mostWords; at++ {
		want += 8
		if got := carve.Off(api.Block{At: at}); got != want {
			t.Errorf("at %d: %d, not %d", at, got, want)
		}
	}
	for _, at := range append(farNumbers(), -513, -512, -9, -8, 513, 600, 1023, 1024, 4096) {
		if got := carve.Off(api.Block{At: at, Size: 8}); (at < 0 || at > mostWords) && got != 0 {
			t.Errorf("at %d: %d", at, got)
		}
	}
}

// P16.1: it hangs on where a block begins alone.
func TestOffOfAnyBlock(t *testing.T) {
	for _, size := range append(farNumbers(), -1, 0, 1, 2, 512, 513) {
		for _, used := range []bool{false, true} {
			if got := carve.Off(api.Block{At: 4, Size: size, Used: used}); got != 40 {
				t.Errorf("size %d, used %v: %d", size, used, got)
			}
		}
	}
}

// P16.1, P16.2: blocks that are taken, and the edits, written out, the document's example first.
func TestByHand(t *testing.T) {
	for n, x := range []struct {
		l       []api.Block
		i, need int
		want    []api.Block
		edits   []api.Edit
	}{
		{row(-8), 0, 3, row(3, -5), from(0, 7, 0, 0, 10)},
		{row(-8), 0, 2, row(2, -6), from(0, 5, 0, 12)},
		{row(-8), 0, 6, row(6, -2), from(0, 13, 0, 0, 0, 0, 0, 4)},
		{row(-8), 0, 7, row(8), from(0, 17, 0, 0, 0, 0, 0, 0, 0)},
		{row(-8), 0, 8, row(8), from(0, 17, 0, 0, 0, 0, 0, 0, 0)},
		{row(6, -2), 1, 2, row(6, 2), from(6, 5, 0)},
		{row(-3, 5), 0, 2, row(3, 5), from(0, 7, 0, 0)},
		{row(2, -4, 2), 1, 2, row(2, 2, -2, 2), from(2, 5, 0, 4)},
		{row(-2, 2, -2, 2), 2, 2, row(-2, 2, 2, 2), from(4, 5, 0)},
		{row(508, -4), 1, 2, row(508, 2, -2), from(508, 5, 0, 4)},
		{row(510, -2), 1, 2, row(510, 2), from(510, 5, 0)},
		{row(-512), 0, 2, row(2, -510), from(0, 5, 0, 1020)},
	} {
		if got, ok := carve.Blocks(x.l, x.i, x.need); !ok || !slices.Equal(got, x.want) {
			t.Errorf("row %d: %v %v", n, got, ok)
		}
		if got := carve.Edits(x.l, x.i, x.need); !slices.Equal(got, x.edits) {
			t.Errorf("row %d: %v", n, got)
		}
	}
}

// P16.1, P16.2: of all blocks that there may be in one line and two, each place, and those around them, and all needs.
func TestAllRows(t *testing.T) {
	for _, words := range []int{8, 16} {
		for _, l := range rows(words) {
			for i := -1; i <= len(l); i++ {
				for need := -1; need <= words+1; need++ {
					check(t, l, i, need, taken(l, i, need))
				}
			}
		}
	}
}

// P16.1, P16.2: all free blocks that there may be in the greatest heap, at its beginning, in it, and at its end, and all needs there.
func TestAllSizes(t *testing.T) {
	for size := leastSize; size <= mostWords; size++ {
		var places [][]int
		if rest := mostWords - size; rest == 0 {
			places = [][]int{{-size}}
		} else if rest >= leastSize {
			places = [][]int{{-size, rest}, {rest, -size}}
			if rest >= 7 {
				places = append(places, []int{4, -size, rest - 4})
			}
		}
		for _, p := range places {
			l := row(p...)
			i := slices.IndexFunc(l, func(b api.Block) bool { return !b.Used })
			for need := size - 4; need <= size+2; need++ {
				check(t, l, i, need, taken(l, i, need))
			}
			for need := 1; need <= mostNeed+1; need++ {
				check(t, l, i, need, taken(l, i, need))
			}
		}
	}
}

// P16.1, R1: places and needs that there are not, at the edges.
func TestNoSuchPlace(t *testing.T) {
	for _, l := range [][]api.Block{row(-8), row(3, -5), row(-3, 5), row(-512), row(-2, 2, -2, 2), nil, {}} {
		for _, far := range append(farNumbers(), -513, -8, -2, -1, 4, 5, 8, 513, 514) {
			check(t, l, far, 2, nil)
			check(t, l, far, far, nil)
			if far < leastSize || far > mostWords {
				check(t, l, 0, far, nil)
				check(t, l, 1, far, nil)
			}
		}
	}
	for i := range 4 {
		check(t, row(2, 2, 2, 2), i, 2, nil)
	}
}

// P16.1, R1: blocks that may not be, written out; the place is that of a free one.
func TestMayNotBe(t *testing.T) {
	for n, x := range []struct {
		l []api.Block
		i int
	}{
		{row(-4, -4), 0}, {row(-4, -4), 1}, {row(2, -2, -2, 2), 1}, {row(-4, 4, -4, -4), 0}, // two free ones side by side
		{row(-6), 0}, {row(-7), 0}, {row(-9), 0}, {row(-4, 3), 0}, {row(-4, 8), 0}, // no whole lines
		{row(8, -505, 7), 1}, {row(-512, 8), 0}, {row(512, -8), 1}, {row(-520), 0}, // more words than there may be
		{row(-7, 1), 0}, {row(1, -7), 1}, {row(-8, 0), 0}, {row(0, -8), 1}, // no size
		{[]api.Block{{At: 1, Size: 8}}, 0}, {[]api.Block{{At: -1, Size: 8}}, 0}, {[]api.Block{{At: 8, Size: 8}}, 0},
		{[]api.Block{{At: 0, Size: 4}, {At: 5, Size: 4, Used: true}}, 0},                                                               // a word between
		{[]api.Block{{At: 0, Size: 4}, {At: 3, Size: 4, Used: true}}, 0},                                                               // a word of both
		{[]api.Block{{At: 4, Size: 4, Used: true}, {At: 0, Size: 4}}, 1},                                                               // out of order
		{[]api.Block{{At: 0, Size: 4}, {At: 0, Size: 4, Used: true}}, 0},                                                               // twice
		{[]api.Block{{At: 0, Size: 16}, {At: 16, Size: -8, Used: true}}, 0},                                                            // 8 in all
		{[]api.Block{{At: 0, Size: 8}, {At: 8, Size: 0, Used: true}}, 0},                                                               // of no word
		{[]api.Block{{At: 0, Size: 8}, {At: 8, Size: math.MinInt, Used: true}}, 0},                                                     // far below
		{[]api.Block{{At: 0, Size: 8}, {At: 8, Size: 1 << 32, Used: true}}, 0},                                                         // far above
		{[]api.Block{{At: 0, Size: 1<<32 + 8}}, 0},                                                                                     // likewise
		{[]api.Block{{At: 0, Size: 1 << 62}, {At: 1 << 62, Size: 1 << 62, Used: true}}, 0},                                             // a sum that goes round
		{[]api.Block{{At: 0, Size: math.MaxInt, Used: true}, {At: math.MaxInt, Size: math.MaxInt, Used: true}, {At: -2, Size: 10}}, 2}, // likewise, to 8
		{[]api.Block{{At: 0, Size: math.MinInt, Used: true}, {At: math.MinInt, Size: math.MinInt, Used: true}, {At: 0, Size: 8}}, 2},   // likewise
	} {
		for need := -1; need <= 9; need++ {
			if got, ok := carve.Blocks(x.l, x.i, need); ok || got != nil {
				t.Errorf("row %d, need %d: %v %v", n, need, got, ok)
			}
			if got := carve.Edits(x.l, x.i, need); got != nil {
				t.Errorf("row %d, need %d: %v", n, need, got)
			}
		}
	}
}

// P16.1, P16.2: one number of one block is another one, so that they may no more be, whichever block is asked for.
func TestOneOff(t *testing.T) {
	for _, l := range rows(8) {
		for k := range l {
			for _, d := range []int{-8, -1, 1, 2, 8, 1 << 32, math.MinInt} {
				at, size := slices.Clone(l), slices.Clone(l)
				at[k].At += d
				size[k].Size += d
				for i := range l {
					check(t, at, i, 2, nil)
					if d != 8 || k+1 < len(l) { // the last one may be a line longer
						check(t, size, i, 2, nil)
					}
				}
			}
		}
	}
}

// P16.3: edited so, the words are those blocks, and nothing else changes: of all blocks in one line and two.
func TestEditedWords(t *testing.T) {
	for _, words := range []int{8, 16} {
		for _, l := range rows(words) {
			for i, b := range l {
				for need := leastSize; !b.Used && need <= b.Size; need++ {
					checkWords(t, l, i, need, laid(words, l))
				}
			}
		}
	}
}

// P16.2: the edits are by word, rising, within the block that is taken.
func TestRising(t *testing.T) {
	l := row(5, -50, 3, -300, 154)
	for _, i := range []int{1, 3} {
		for need := leastSize; need <= l[i].Size; need++ {
			edits := carve.Edits(l, i, need)
			if edits[0].Word != l[i].At || edits[len(edits)-1].Word >= l[i].At+l[i].Size {
				t.Fatal(need, edits)
			}
			for k := 1; k < len(edits); k++ {
				if edits[k].Word != edits[k-1].Word+1 {
					t.Fatal(need, edits)
				}
			}
			if size := fit.Takes(l[i].Size, need); len(edits) != size && len(edits) != size+1 {
				t.Fatal(need, size, edits)
			}
		}
	}
}

// P16.1 to P16.3: block behind block is taken, as they fit, and some are free again; the numbers are of a short rule.
func TestLongRuns(t *testing.T) {
	state := uint64(16)
	for range 200 {
		words := 8 + 8*next(&state, 64)
		l := row(-words)
		w := laid(words, l)
		for {
			need := fit.Need(1 + next(&state, 448))
			i := fit.Choose(l, need, nil)
			if i < 0 {
				break
			}
			check(t, l, i, need, taken(l, i, need))
			checkWords(t, l, i, need, w)
			w = edited(w, carve.Edits(l, i, need))
			l, _ = carve.Blocks(l, i, need)
			giveBack(l, w, next(&state, len(l)))
		}
	}
}

// giveBack frees a used block, if no free one is beside it.
func giveBack(l []api.Block, w []uint64, i int) {
	if i > 0 && !l[i-1].Used || i+1 < len(l) && !l[i+1].Used {
		return
	}
	l[i].Used = false
	w[l[i].At] = header(l[i].Size, false)
	for word := l[i].At + 1; word < l[i].At+l[i].Size; word++ {
		w[word] = uint64(word)
	}
}

// P16.1: for all bytes that a call may ask for, the used block has room for as many behind its offset, and for no whole word more.
func TestBytes(t *testing.T) {
	l := row(3, -200, 309)
	for n := 1; n <= 448; n++ {
		after, ok := carve.Blocks(l, 1, fit.Need(n))
		if !ok || carve.Off(after[1]) != 32 || carve.Off(after[1])+n > 8*after[2].At || carve.Off(after[1])+n+8 <= 8*after[2].At {
			t.Errorf("%d bytes: %v %v", n, after, ok)
		}
	}
}

// R3: as many blocks as there are, it ends.
func TestManyBlocks(t *testing.T) {
	for _, l := range [][]api.Block{row(slices.Repeat([]int{-2, 2}, 500000)...), slices.Repeat(row(-8), 1000000), make([]api.Block, 1000000)} {
		for _, i := range []int{0, 2, len(l) - 2, len(l)} {
			check(t, l, i, 2, nil)
		}
	}
	check(t, row(slices.Repeat([]int{-2, 2}, 128)...), 254, 2, row(append(slices.Repeat([]int{-2, 2}, 127), 2, 2)...))
}

// R2: nothing that is handed in is changed, and what is behind its length is neither read nor written.
func TestHandedIn(t *testing.T) {
	l := row(-8, 3, -5, -4, 4)
	was := slices.Clone(l)
	check(t, l[:1], 0, 3, row(3, -5))
	check(t, l[:1], 0, 8, row(8))
	check(t, l[:3], 0, 4, row(4, -4, 3, -5))
	check(t, l[:3], 2, 3, row(-8, 3, 3, -2))
	check(t, l[:3], 2, 5, row(-8, 3, 5))
	check(t, l, 2, 3, nil)
	check(t, l[:2], 0, 3, nil)
	check(t, l[:3], 3, 2, nil)
	check(t, l[:0], 0, 3, nil)
	if !slices.Equal(l, was) {
		t.Error(l)
	}
}

// R2: what is told is new memory.
func TestNewMemory(t *testing.T) {
	for _, need := range []int{2, 5} {
		l := row(8, -8, 3, -5)
		was := slices.Clone(l)
		blocks, _ := carve.Blocks(l, 3, need)
		again, _ := carve.Blocks(l, 3, need)
		edits, editsAgain := carve.Edits(l, 3, need), carve.Edits(l, 3, need)
		wantBlocks, wantEdits := slices.Clone(again), slices.Clone(editsAgain)
		blocks, edits = blocks[:cap(blocks)], edits[:cap(edits)]
		for i := range blocks {
			blocks[i] = api.Block{At: 77}
		}
		for i := range edits {
			edits[i] = api.Edit{Word: 77}
		}
		if !slices.Equal(l, was) {
			t.Error(need, l)
		}
		clear(l)
		if !slices.Equal(again, wantBlocks) || !slices.Equal(editsAgain, wantEdits) {
			t.Error(need, again, editsAgain)
		}
	}
}

// R6: asked again, behind others, the answers are the same.
func TestSameAgain(t *testing.T) {
	for _, l := range rows(8) {
		for i := range l {
			carve.Blocks(l, i, 3)
			carve.Edits(l, i, 2)
			carve.Off(l[i])
			check(t, row(-8), 0, 3, row(3, -5))
			check(t, row(3, -5), 0, 3, nil)
			if carve.Off(api.Block{At: 5, Size: 3}) != 48 {
				t.Fatal("not the same")
			}
		}
	}
}
