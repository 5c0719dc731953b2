package merge_test

import (
	"math"
	"slices"
	"testing"

	"darning/api"
	"darning/carve"
	"darning/chain"
	"darning/fit"
	"darning/merge"
)

// These are the document's numbers, written anew.
const (
	leastSize = 2
	mostWords = 512
)

// row is blocks of such sizes, one behind the other; those below 0 are free.
func row(sizes ...int) []api.Block {
	var l []api.Block
	at := 0
	for _, n := range sizes {
		l = append(l, api.Block{At: at, Size: max(n, -n), Used: n > 0})
		at += max(n, -n)
	}
	return l
}

// rows are all blocks that there may be in so many words.
func rows(words int) [][]api.Block {
	var all [][]api.Block
	var more func(sizes []int, left int)
	more = func(sizes []int, left int) {
		if left == 0 {
			all = append(all, row(sizes...))
		}
		for n := leastSize; n <= left; n++ {
			more(append(slices.Clone(sizes), n), left-n)
			if len(sizes) == 0 || sizes[len(sizes)-1] > 0 {
				more(append(slices.Clone(sizes), -n), left-n)
			}
		}
	}
	more(nil, words)
	return all
}

// header is the word of a block.
func header(size int, used bool) uint64 {
	if used {
		return uint64(size)*2 + 1
	}
	return uint64(size) * 2
}

// laid is words that have the headers of blocks, and behind each of them what would be a header, too.
func laid(words int, l []api.Block) []uint64 {
	w := make([]uint64, words)
	for i := range w {
		w[i] = uint64(4 + i%7)
	}
	for _, b := range l {
		w[b.At] = header(b.Size, b.Used)
	}
	return w
}

// farNumbers are at the edges, and those that a smaller kind of number would take for another one.
func farNumbers() []int {
	all := []int{math.MinInt, math.MinInt + 1, math.MinInt + 8, math.MaxInt - 8, math.MaxInt - 7, math.MaxInt - 1, math.MaxInt}
	for _, bit := range []int{8, 16, 31, 32, 33, 48, 60, 61, 62} {
		for _, d := range []int{-8, -1, 0, 1, 2, 3, 8, 16} {
			all = append(all, 1<<bit+d, -(1<<bit)+d)
		}
	}
	return all
}

// next is a number below n; it comes of a short rule.
func next(state *uint64, n int) int {
	*state = *state*6364136223846793005 + 1442695040888963407
	return int(*state >> 33 % uint64(n))
}

// givenBack is the blocks behind the giving back of the i-th one, told by what each word is: words of free blocks that touch are one block's. Nil, if it is not used. The blocks are ones that may be.
func givenBack(l []api.Block, i int) []api.Block {
	if i < 0 || i >= len(l) || !l[i].Used {
		return nil
	}
	var after []api.Block
	for k, b := range l {
		used := b.Used && k != i
		if last := len(after) - 1; last >= 0 && !used && !after[last].Used {
			after[last].Size += b.Size
			continue
		}
		after = append(after, api.Block{At: b.At, Size: b.Size, Used: used})
	}
	return after
}

// check holds the blocks behind a giving back, and its edit, against the chapter; want is nil, if there is to be none.
func check(t *testing.T, l []api.Block, i int, want []api.Block) {
	t.Helper()
	if got, ok := merge.Blocks(l, i); ok != (want != nil) || !slices.Equal(got, want) {
		t.Fatalf("%v, place %d: %v %v, not %v", l, i, got, ok, want)
	}
	var edit api.Edit
	if want != nil {
		b := want[chain.At(want, l[i].At)]
		edit = api.Edit{Word: b.At, Val: header(b.Size, false)}
	}
	if got, ok := merge.Edit(l, i); ok != (want != nil) || got != edit {
		t.Fatalf("%v, place %d: edit %v %v, not %v", l, i, got, ok, edit)
	}
}

// checkWords edits words, and holds them against the blocks they shall be; it tells the words.
func checkWords(t *testing.T, l []api.Block, i int, w []uint64) []uint64 {
	t.Helper()
	want, ok := merge.Blocks(l, i)
	edit, is := merge.Edit(l, i)
	if !ok || !is {
		t.Fatalf("%v, place %d: %v, %v", l, i, ok, is)
	}
	got := slices.Clone(w)
	got[edit.Word] = edit.Val
	if read, ok := chain.Blocks(got); !ok || !slices.Equal(read, want) {
		t.Fatalf("%v, place %d: the words are %v %v, not %v", l, i, read, ok, want)
	}
	return got
}

// P17.1: blocks that are given back, and the edits, written out, the document's example first.
func TestByHand(t *testing.T) {
	for n, x := range []struct {
		l    []api.Block
		i    int
		want []api.Block
		edit api.Edit
	}{
		{row(-3, 3, -2), 1, row(-8), api.Edit{Word: 0, Val: 16}},
		{row(8), 0, row(-8), api.Edit{Word: 0, Val: 16}},
		{row(3, -5), 0, row(-8), api.Edit{Word: 0, Val: 16}},
		{row(-3, 5), 1, row(-8), api.Edit{Word: 0, Val: 16}},
		{row(3, 5), 0, row(-3, 5), api.Edit{Word: 0, Val: 6}},
		{row(3, 5), 1, row(3, -5), api.Edit{Word: 3, Val: 10}},
		{row(2, 2, 2, 2), 2, row(2, 2, -2, 2), api.Edit{Word: 4, Val: 4}},
		{row(-2, 2, 2, 2), 1, row(-4, 2, 2), api.Edit{Word: 0, Val: 8}},
		{row(-2, 2, 2, 2), 2, row(-2, 2, -2, 2), api.Edit{Word: 4, Val: 4}},
		{row(-2, 2, -2, 2), 1, row(-6, 2), api.Edit{Word: 0, Val: 12}},
		{row(-2, 2, -2, 2), 3, row(-2, 2, -4), api.Edit{Word: 4, Val: 8}},
		{row(2, -2, 2, -2), 0, row(-4, 2, -2), api.Edit{Word: 0, Val: 8}},
		{row(2, -2, 2, -2), 2, row(2, -6), api.Edit{Word: 2, Val: 12}},
		{row(512), 0, row(-512), api.Edit{Word: 0, Val: 1024}},
		{row(510, 2), 1, row(510, -2), api.Edit{Word: 510, Val: 4}},
		{row(508, -2, 2), 2, row(508, -4), api.Edit{Word: 508, Val: 8}},
		{row(-255, 2, -255), 1, row(-512), api.Edit{Word: 0, Val: 1024}},
	} {
		if got, ok := merge.Blocks(x.l, x.i); !ok || !slices.Equal(got, x.want) {
			t.Errorf("row %d: %v %v", n, got, ok)
		}
		if got, ok := merge.Edit(x.l, x.i); !ok || got != x.edit {
			t.Errorf("row %d: %v %v", n, got, ok)
		}
	}
}

// P17.1: of all blocks that there may be in one line and two, each place, and those around them.
func TestAllRows(t *testing.T) {
	for _, words := range []int{8, 16} {
		for _, l := range rows(words) {
			for i := -2; i <= len(l)+1; i++ {
				check(t, l, i, givenBack(l, i))
			}
		}
	}
}

// P17.1: all sizes in the greatest heap, alone, behind a free block, ahead of one, and between two.
func TestAllSizes(t *testing.T) {
	for size := leastSize; size <= mostWords-8; size++ {
		rest := mostWords - size
		for n, x := range []struct {
			l, want []api.Block
		}{
			{row(4, size, rest-4), row(4, -size, rest-4)},
			{row(-4, size, rest-4), row(-4-size, rest-4)},
			{row(4, size, 4-rest), row(4, -size+4-rest)},
			{row(-4, size, 4-rest), row(-mostWords)},
		} {
			check(t, x.l, 1, x.want)
			if got := givenBack(x.l, 1); !slices.Equal(got, x.want) {
				t.Fatalf("size %d, row %d: the tests' own blocks are %v", size, n, got)
			}
		}
	}
}

// P17.1: places of free blocks.
func TestNotUsed(t *testing.T) {
	for _, x := range []struct {
		l []api.Block
		i int
	}{{row(-8), 0}, {row(-512), 0}, {row(3, -5), 1}, {row(-3, 5), 0}, {row(-2, 2, -2, 2), 2}, {row(2, -4, 2), 1}} {
		check(t, x.l, x.i, nil)
	}
}

// P17.1, R1: places that there are not, at the edges.
func TestNoSuchPlace(t *testing.T) {
	for _, l := range [][]api.Block{row(8), row(-8), row(3, -5), row(-3, 5), row(512), row(2, 2, 2, 2), nil, {}} {
		for _, i := range append(farNumbers(), -513, -512, -8, -2, -1, len(l), len(l)+1, 8, 9, 511, 512, 513) {
			check(t, l, i, nil)
		}
	}
}

// P17.1, R1: blocks that may not be, written out; no place of them is one's that can be given back.
func TestMayNotBe(t *testing.T) {
	for n, l := range [][]api.Block{
		row(-2, -2, 4), row(4, -2, -2), row(-2, 2, -2, -2), row(2, -2, -2, 2), // two free ones side by side
		row(6), row(7), row(9), row(3, 3), row(4, 3), row(4, 8), row(2, -10), row(500), // no whole lines
		row(8, 512), row(512, 8), row(512, -8), row(520), row(260, 260), // more words than there may be
		row(7, 1), row(1, 7), row(8, 0), row(0, 8), row(3, -4, 1), // no size
		{{At: 1, Size: 8, Used: true}}, {{At: -1, Size: 8, Used: true}}, {{At: 8, Size: 8, Used: true}},
		{{At: 0, Size: 4, Used: true}, {At: 5, Size: 4, Used: true}},                                                     // a word between
		{{At: 0, Size: 4, Used: true}, {At: 3, Size: 4, Used: true}},                                                     // a word of both
		{{At: 4, Size: 4, Used: true}, {At: 0, Size: 4, Used: true}},                                                     // out of order
		{{At: 0, Size: 4, Used: true}, {At: 0, Size: 4, Used: true}},                                                     // twice
		{{At: 0, Size: 16, Used: true}, {At: 16, Size: -8, Used: true}},                                                  // 8 in all
		{{At: 0, Size: 8, Used: true}, {At: 8, Size: 0}},                                                                 // of no word
		{{At: 0, Size: 8, Used: true}, {At: 8, Size: math.MinInt}},                                                       // far below
		{{At: 0, Size: 8, Used: true}, {At: 8, Size: 1 << 32}},                                                           // far above
		{{At: 0, Size: 1<<32 + 8, Used: true}},                                                                           // likewise
		{{At: 0, Size: 1 << 62, Used: true}, {At: 1 << 62, Size: 1 << 62}},                                               // a sum that goes round
		{{At: 0, Size: math.MaxInt, Used: true}, {At: math.MaxInt, Size: math.MaxInt}, {At: -2, Size: 10, Used: true}},   // likewise, to 8
		{{At: 0, Size: math.MinInt, Used: true}, {At: math.MinInt, Size: math.MinInt}, {At: 0, Size: 8, Used: true}},     // likewise
		{{At: 0, Size: 1 << 62, Used: true}, {At: 0, Size: 1 << 62}, {At: 0, Size: 1 << 62}, {At: 0, Size: 1<<62 + 512}}, // likewise, to 512
	} {
		for i := -1; i <= len(l); i++ {
			if got, ok := merge.Blocks(l, i); ok || got != nil {
				t.Errorf("row %d, place %d: %v %v", n, i, got, ok)
			}
			if got, ok := merge.Edit(l, i); ok || got != (api.Edit{}) {
				t.Errorf("row %d, place %d: %v %v", n, i, got, ok)
			}
		}
	}
}

// P17.1: one number of one block is another one, so that they may no more be, whichever block is asked for.
func TestOneOff(t *testing.T) {
	for _, l := range rows(8) {
		for k := range l {
			for _, d := range []int{-8, -1, 1, 2, 8, 1 << 32, math.MinInt} {
				at, size := slices.Clone(l), slices.Clone(l)
				at[k].At += d
				size[k].Size += d
				for i := range l {
					check(t, at, i, nil)
					if d != 8 || k+1 < len(l) { // the last one may be a line longer
						check(t, size, i, nil)
					}
				}
			}
		}
	}
}

// P17.2: edited so, the words are those blocks: of all blocks in one line and two, whatever is behind the headers.
func TestEditedWords(t *testing.T) {
	for _, words := range []int{8, 16} {
		for _, l := range rows(words) {
			for i, b := range l {
				if b.Used {
					checkWords(t, l, i, laid(words, l))
				}
			}
		}
	}
}

// P17.2: what is taken and given back leaves the blocks as they were: all blocks in one line and two, each free one, and all needs.
func TestTakenAndGivenBack(t *testing.T) {
	for _, words := range []int{8, 16} {
		for _, l := range rows(words) {
			for i, b := range l {
				for need := leastSize; !b.Used && need <= b.Size; need++ {
					taken, ok := carve.Blocks(l, i, need)
					if !ok {
						t.Fatal(l, i, need)
					}
					check(t, taken, i, l)
					w := laid(words, l)
					for _, e := range carve.Edits(l, i, need) {
						w[e.Word] = e.Val
					}
					if back, _ := chain.Blocks(checkWords(t, taken, i, w)); !slices.Equal(back, l) {
						t.Fatal(l, i, need, back)
					}
				}
			}
		}
	}
}

// P17.2: in the greatest heap, too, at its beginning, in it, and at its end.
func TestTakenAndGivenBackOfMany(t *testing.T) {
	for _, x := range []struct {
		l []api.Block
		i int
	}{{row(-512), 0}, {row(-300, 212), 0}, {row(200, -312), 1}, {row(-100, 20, -300, 92), 2}} {
		for need := leastSize; need <= x.l[x.i].Size; need++ {
			taken, ok := carve.Blocks(x.l, x.i, need)
			if !ok {
				t.Fatal(x.l, x.i, need)
			}
			check(t, taken, x.i, x.l)
		}
	}
}

// P17.1, P17.2: blocks are taken and given back, in an order of a short rule; when all are given back, it is one free block.
func TestLongRuns(t *testing.T) {
	state := uint64(17)
	for range 100 {
		words := 8 + 8*next(&state, 64)
		l := row(-words)
		w := chain.First(words)
		for range 200 {
			need := fit.Need(1 + next(&state, 60))
			if i := fit.Choose(l, need, nil); i >= 0 && next(&state, 5) > 1 {
				for _, e := range carve.Edits(l, i, need) {
					w[e.Word] = e.Val
				}
				l, _ = carve.Blocks(l, i, need)
				continue
			}
			l, w = giveBack(t, l, w, next(&state, len(l)))
		}
		for slices.ContainsFunc(l, func(b api.Block) bool { return b.Used }) {
			l, w = giveBack(t, l, w, next(&state, len(l)))
		}
		if !slices.Equal(l, row(-words)) || w[0] != header(words, false) {
			t.Fatal(words, l, w[0])
		}
	}
}

// giveBack gives the block at a place back, if it is used, and tells the blocks and words behind that.
func giveBack(t *testing.T, l []api.Block, w []uint64, i int) ([]api.Block, []uint64) {
	t.Helper()
	want := givenBack(l, i)
	check(t, l, i, want)
	if want == nil {
		return l, w
	}
	return want, checkWords(t, l, i, w)
}

// R3: as many blocks as there are, it ends.
func TestManyBlocks(t *testing.T) {
	for _, l := range [][]api.Block{row(slices.Repeat([]int{2, -2}, 500000)...), slices.Repeat(row(8), 1000000), make([]api.Block, 1000000)} {
		for _, i := range []int{0, 2, len(l) - 2, len(l)} {
			check(t, l, i, nil)
		}
	}
	check(t, row(slices.Repeat([]int{2}, 256)...), 255, row(append(slices.Repeat([]int{2}, 255), -2)...))
	check(t, row(slices.Repeat([]int{2, -2}, 128)...), 254, row(append(slices.Repeat([]int{2, -2}, 126), 2, -6)...))
}

// R2: nothing that is handed in is changed, and what is behind its length is neither read nor written.
func TestHandedIn(t *testing.T) {
	l := row(8, -3, 5, -6, 2)
	was := slices.Clone(l)
	check(t, l[:1], 0, row(-8))
	check(t, l[:3], 0, row(-11, 5))
	check(t, l[:3], 2, row(8, -8))
	check(t, l, 2, row(8, -14, 2))
	check(t, l, 0, row(-11, 5, -6, 2))
	check(t, l, 4, row(8, -3, 5, -8))
	check(t, l[:3], 4, nil)
	check(t, l[:2], 0, nil)
	check(t, l[:0], 0, nil)
	if !slices.Equal(l, was) {
		t.Error(l)
	}
}

// R2: what is told is new memory.
func TestNewMemory(t *testing.T) {
	for _, sizes := range [][]int{{2, 3, 3, 8}, {-2, 3, 3, 8}, {2, 3, -3, 8}, {-2, 3, -3, 8}, {8, 8}} {
		l := row(sizes...)
		was := slices.Clone(l)
		got, _ := merge.Blocks(l, 1)
		again, _ := merge.Blocks(l, 1)
		want := slices.Clone(again)
		got = got[:cap(got)]
		for i := range got {
			got[i] = api.Block{At: 77}
		}
		if !slices.Equal(l, was) {
			t.Error(sizes, l)
		}
		clear(l)
		if !slices.Equal(again, want) {
			t.Error(sizes, again)
		}
	}
}

// R6: asked again, behind others, the answers are the same.
func TestSameAgain(t *testing.T) {
	for _, l := range rows(8) {
		for i := range l {
			merge.Blocks(l, i)
			merge.Edit(l, i)
			check(t, row(-3, 3, -2), 1, row(-8))
			check(t, row(-3, 3, -2), 2, nil)
		}
	}
}
