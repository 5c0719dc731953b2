package fit_test

import (
	"cmp"
	"math"
	"slices"
	"testing"

	"darning/api"
	"darning/block"
	"darning/chain"
	"darning/fit"
)

// These are the document's numbers, written anew.
const (
	mostBytes = 448
	mostNeed  = 57
	leastSize = 2
	mostSize  = 512
	pageWords = 32
)

// row is blocks of such sizes, one behind the other; those below 0 are free.
func row(sizes ...int) []api.Block {
	var l []api.Block
	at := 0
	for _, n := range sizes {
		l = append(l, api.Block{At: at, Size: max(n, -n), Used: n > 0})
		at += max(n, -n)
	}
	return l
}

// rows are all blocks that there may be in so many words.
func rows(words int) [][]api.Block {
	var all [][]api.Block
	var more func(sizes []int, left int)
	more = func(sizes []int, left int) {
		if left == 0 {
			all = append(all, row(sizes...))
		}
		for n := leastSize; n <= left; n++ {
			more(append(slices.Clone(sizes), n), left-n)
			if len(sizes) == 0 || sizes[len(sizes)-1] > 0 {
				more(append(slices.Clone(sizes), -n), left-n)
			}
		}
	}
	more(nil, words)
	return all
}

// spread is 512 words, with a free block of that size at each page's beginning, and a used one behind it.
func spread(size int) []api.Block {
	var sizes []int
	for range mostSize / pageWords {
		sizes = append(sizes, -size, pageWords-size)
	}
	return row(sizes...)
}

// farNumbers are at the edges, and those that a smaller kind of number would take for another one.
func farNumbers() []int {
	all := []int{math.MinInt, math.MinInt + 1, math.MinInt + 2, math.MinInt + 8, math.MaxInt - 8, math.MaxInt - 7, math.MaxInt - 1, math.MaxInt}
	for _, bit := range []int{8, 16, 31, 32, 33, 48, 60, 61, 62} {
		for _, d := range []int{-8, -1, 0, 1, 2, 3, 8, 16} {
			all = append(all, 1<<bit+d, -(1<<bit)+d)
		}
	}
	return all
}

// numbers are ordinary ones, those at the edges, and far ones.
func numbers() []int {
	all := farNumbers()
	for n := -20; n <= 40; n++ {
		all = append(all, n)
	}
	return append(all, 55, 56, 57, 58, 59, 255, 256, 447, 448, 449, 510, 511, 512, 513, 514)
}

// needed fills words, eight bytes each, behind a header, till all bytes are in one.
func needed(n int) int {
	if n < 1 || n > mostBytes {
		return 0
	}
	words := 1
	for room := 0; room < n; room += 8 {
		words++
	}
	return words
}

// taken is what the chapter says of the words that are taken: where none or one would be left it is all of them.
func taken(size, need int) int {
	switch {
	case need < 2 || need > size:
		return 0
	case size == need || size == need+1:
		return size
	}
	return need
}

// fitting sorts the free blocks that are large enough by their sizes, and tells the places of the first ones that are alike.
func fitting(l []api.Block, need int) []int {
	var places []int
	for i, b := range l {
		if need >= 2 && !b.Used && b.Size >= need {
			places = append(places, i)
		}
	}
	slices.SortStableFunc(places, func(i, j int) int { return cmp.Compare(l[i].Size, l[j].Size) })
	for k, i := range places {
		if l[i].Size != l[places[0]].Size {
			return places[:k]
		}
	}
	return places
}

// countAt finds the count of the page that has a word, page by page.
func countAt(word int, counts []int) int {
	for page, n := range counts {
		if word >= page*pageWords && word <= page*pageWords+pageWords-1 {
			return n
		}
	}
	return 0
}

// chosen sorts the blocks that fit, by their pages' counts, then by where they are.
func chosen(l []api.Block, need int, counts []int) int {
	places := fitting(l, need)
	if len(places) == 0 {
		return -1
	}
	slices.SortStableFunc(places, func(i, j int) int { return cmp.Compare(l[i].At, l[j].At) })
	slices.SortStableFunc(places, func(i, j int) int { return cmp.Compare(countAt(l[i].At, counts), countAt(l[j].At, counts)) })
	return places[0]
}

// check holds the blocks that fit, and the one that is chosen, against the chapter.
func check(t *testing.T, l []api.Block, need int, counts []int) {
	t.Helper()
	if got, want := fit.Fits(l, need), fitting(l, need); !slices.Equal(got, want) {
		t.Fatalf("%v, need %d: %v fit, not %v", l, need, got, want)
	}
	if got, want := fit.Choose(l, need, counts), chosen(l, need, counts); got != want {
		t.Fatalf("%v, need %d, counts %v: %d is chosen, not %d", l, need, counts, got, want)
	}
}

// P15.1: words for bytes, written out.
func TestNeedByHand(t *testing.T) {
	for n, want := range map[int]int{1: 2, 7: 2, 8: 2, 9: 3, 16: 3, 17: 4, 64: 9, 65: 10, 439: 56, 440: 56, 441: 57, 447: 57, 448: 57, 0: 0, -1: 0, -8: 0, 449: 0, 456: 0, 1000: 0} {
		if got := fit.Need(n); got != want {
			t.Errorf("%d bytes: %d words", n, got)
		}
	}
}

// P15.1, R1: words for all numbers of bytes, and for those that there may not be.
func TestNeed(t *testing.T) {
	for n := -600; n <= 1200; n++ {
		if got, want := fit.Need(n), needed(n); got != want {
			t.Errorf("%d bytes: %d words, not %d", n, got, want)
		}
	}
	for _, n := range farNumbers() {
		if n < -600 || n > 1200 {
			if got := fit.Need(n); got != 0 {
				t.Errorf("%d bytes: %d words", n, got)
			}
		}
	}
}

// P15.1: what is taken, written out.
func TestTakesByHand(t *testing.T) {
	for i, x := range []struct{ size, need, want int }{
		{8, 3, 3}, {8, 6, 6}, {8, 7, 8}, {8, 8, 8}, {8, 9, 0},
		{2, 2, 2}, {3, 2, 3}, {4, 2, 2}, {4, 3, 4}, {5, 3, 3}, {1, 2, 0}, {2, 3, 0},
		{512, 57, 57}, {512, 510, 510}, {512, 511, 512}, {512, 512, 512}, {512, 513, 0},
		{8, 1, 0}, {8, 0, 0}, {8, -1, 0}, {8, -8, 0}, {1, 1, 0}, {0, 0, 0}, {-8, -8, 0}, {-3, 2, 0}, {0, 2, 0},
	} {
		if got := fit.Takes(x.size, x.need); got != x.want {
			t.Errorf("row %d: %d", i, got)
		}
	}
}

// P15.1: what is taken of all blocks that there may be is a block, and so is what is left, if there is anything.
func TestTakesBlocks(t *testing.T) {
	for size := -3; size <= mostSize+3; size++ {
		for need := -3; need <= mostSize+6; need++ {
			got := fit.Takes(size, need)
			if want := taken(size, need); got != want {
				t.Fatalf("%d of %d: %d, not %d", need, size, got, want)
			}
			if got == 0 || !block.May(size) {
				continue
			}
			if left := size - got; !block.May(got) || got < need || left != 0 && !block.May(left) {
				t.Fatalf("%d of %d: %d, and %d left", need, size, got, left)
			}
		}
	}
}

// P15.1, R1: sizes and needs whose difference would go round.
func TestTakesFarAway(t *testing.T) {
	for _, size := range numbers() {
		for _, need := range numbers() {
			if got, want := fit.Takes(size, need), taken(size, need); got != want {
				t.Errorf("%d of %d: %d, not %d", need, size, got, want)
			}
		}
	}
}

// P15.2: the blocks that fit, written out, the document's example among them.
func TestFitsByHand(t *testing.T) {
	l := row(-5, 3, -4, 2, -9, 2, -4, 6, -5)
	for i, x := range []struct {
		l    []api.Block
		need int
		want []int
	}{
		{row(-5, 3, -4, 4), 3, []int{2}},
		{l, 2, []int{2, 6}}, {l, 3, []int{2, 6}}, {l, 4, []int{2, 6}}, {l, 5, []int{0, 8}}, {l, 6, []int{4}}, {l, 9, []int{4}}, {l, 10, nil},
		{l, 1, nil}, {l, 0, nil}, {l, -1, nil}, {l, -4, nil}, {l, math.MinInt, nil}, {l, math.MaxInt, nil},
		{nil, 2, nil}, {row(8), 2, nil}, {row(3, 5), 3, nil}, {row(-8), 8, []int{0}}, {row(-8), 9, nil},
		{row(3, -2, 3), 3, nil}, {row(3, -2, 3), 2, []int{1}},
		{row(-512), 57, []int{0}}, {row(-4, -4, -3), 3, []int{2}}, {row(-4, -4, -3), 4, []int{0, 1}},
	} {
		if got := fit.Fits(x.l, x.need); !slices.Equal(got, x.want) {
			t.Errorf("row %d: %v, not %v", i, got, x.want)
		}
	}
}

// P15.2: the block that is chosen, written out: by the counts of the pages, and what they lack; then by where it is.
func TestChooseByHand(t *testing.T) {
	l := row(-4, 28, -4, 28, -9, 23, -4)
	edge := row(28, -3, -5, -3, 25) // words 28, 31 and 36
	for i, x := range []struct {
		l      []api.Block
		need   int
		counts []int
		want   int
	}{
		{row(-5, 3, -4, 4), 3, nil, 2}, {row(-5, 3, -4, 4), 5, nil, 0}, {row(-5, 3, -4, 4), 6, nil, -1},
		{l, 3, nil, 0}, {l, 3, []int{1, 1, 1, 1}, 0}, {l, 3, []int{2, 1, 0, 1}, 2}, {l, 3, []int{2, 1, 0, 0}, 6}, {l, 3, []int{0, 9, 9, 9}, 0},
		{l, 3, []int{1}, 2}, {l, 3, []int{1, 1}, 6}, {l, 3, []int{1, 1, 0}, 6}, {l, 3, []int{0, 1}, 0}, {l, 3, []int{}, 0},
		{l, 3, []int{1, 1, 0, 2}, 0}, {l, 3, []int{1, 1, 0, 2, 0, 0}, 0}, {l, 3, []int{-1, 0, 0, -2}, 6}, {l, 3, []int{0, -1}, 2}, {l, 3, []int{1, -1, 1}, 2},
		{l, 5, []int{0, 0, 99, 0}, 4}, {l, 9, []int{0, 0, 99, 0}, 4}, {l, 10, nil, -1}, {l, 1, nil, -1}, {l, 0, nil, -1}, {l, -4, nil, -1},
		{edge, 3, []int{0, 0}, 1}, {edge, 3, []int{1, 0}, 3}, {edge, 3, []int{0, 1}, 1}, {edge, 4, []int{9, 0}, 2},
		{nil, 3, nil, -1}, {nil, 3, []int{1}, -1}, {row(8), 3, nil, -1},
	} {
		if got := fit.Choose(x.l, x.need, x.counts); got != x.want {
			t.Errorf("row %d: %d, not %d", i, got, x.want)
		}
	}
}

// P15.2, P15.3: all blocks that there may be in one line and two, and all needs.
func TestAllRows(t *testing.T) {
	for _, words := range []int{8, 16} {
		for _, l := range rows(words) {
			for need := -1; need <= words+1; need++ {
				check(t, l, need, nil)
				checkBest(t, l, need, nil)
			}
		}
	}
}

// checkBest asks whether one is chosen just where one is large enough, and whether a smaller one would be.
func checkBest(t *testing.T, l []api.Block, need int, counts []int) {
	t.Helper()
	got := fit.Choose(l, need, counts)
	if has := need >= 2 && chain.Most(l) >= need; has != (got >= 0) {
		t.Fatalf("%v, need %d: %d is chosen", l, need, got)
	}
	if got < 0 {
		return
	}
	if l[got].Used || fit.Takes(l[got].Size, need) < need {
		t.Fatalf("%v, need %d: %d is chosen", l, need, got)
	}
	for i, b := range l {
		if !b.Used && b.Size >= need && b.Size < l[got].Size {
			t.Fatalf("%v, need %d: %d is chosen, not %d", l, need, got, i)
		}
	}
}

// P15.2: one block in each page: it is that of the page with the lowest count, whichever it is.
func TestEachPage(t *testing.T) {
	const pages = mostSize / pageWords
	for _, size := range []int{2, 5, 30} {
		l := spread(size)
		for least := range pages {
			counts := slices.Repeat([]int{7}, pages)
			counts[least] = 6
			if got := fit.Choose(l, 2, counts); got != 2*least {
				t.Errorf("size %d, page %d: %d", size, least, got)
			}
			for second := range pages {
				both := slices.Clone(counts)
				both[second] = 6
				if got := fit.Choose(l, size, both); got != 2*min(least, second) {
					t.Errorf("size %d, pages %d and %d: %d", size, least, second, got)
				}
			}
			short := slices.Repeat([]int{7}, least)
			if got := fit.Choose(l, size, short); got != 2*least {
				t.Errorf("size %d, %d counts: %d", size, least, got)
			}
		}
	}
}

// P15.2: each word that a block begins at is of its own page: of two blocks that one is chosen whose page was written less.
func TestPageOfWord(t *testing.T) {
	for word := -70; word <= mostSize+70; word++ {
		for page := range mostSize / pageWords {
			counts := make([]int, page+1)
			counts[page] = -1
			l := []api.Block{{At: -71, Size: 4}, {At: word, Size: 4}}
			want := 0
			if word >= 0 && word/pageWords == page {
				want = 1
			}
			if got := fit.Choose(l, 4, counts); got != want {
				t.Fatalf("word %d, page %d: %d", word, page, got)
			}
		}
	}
}

// P15.2, R1, R3: blocks far away, with sizes that may not be, out of order, and counts at the edges.
func TestOddBlocks(t *testing.T) {
	far := []int{math.MinInt, -1 << 32, -33, -32, -1, 0, 31, 32, 64, 512, 1 << 32, 1<<32 + 32, 1 << 62, math.MaxInt}
	for _, a := range far {
		for _, b := range far {
			if a == b {
				continue
			}
			l := []api.Block{{At: a, Size: 4}, {At: 5, Size: 3}, {At: b, Size: 4}}
			for _, counts := range [][]int{nil, {1}, {-1}, {1, 0}, {0, 1}, {math.MaxInt, math.MinInt}, {math.MinInt, math.MaxInt}, {math.MinInt, math.MinInt, math.MinInt}} {
				check(t, l, 4, counts)
				check(t, l, 3, counts)
			}
		}
	}
	for _, size := range numbers() {
		for _, need := range numbers() {
			check(t, []api.Block{{At: 3, Size: 7}, {At: 0, Size: size}}, need, nil)
			check(t, []api.Block{{At: 0, Size: size}, {At: 3, Size: 7, Used: true}, {At: 99, Size: size, Used: true}}, need, []int{4})
		}
	}
}

// P15.2, P15.3: many blocks with many counts, of sizes that are often alike; the numbers are of a short rule.
func TestLongRuns(t *testing.T) {
	state := uint64(15)
	next := func(n int) int {
		state = state*6364136223846793005 + 1442695040888963407
		return int(state >> 33 % uint64(n))
	}
	for range 3000 {
		var sizes []int
		for words := 0; words < mostSize-24; {
			free, used := 2+next(7), 2+next(14)
			sizes = append(sizes, -free, used)
			words += free + used
		}
		counts := make([]int, next(18))
		for page := range counts {
			counts[page] = next(4)
		}
		l := row(sizes...)
		for need := 1; need <= 10; need++ {
			check(t, l, need, counts)
			checkBest(t, l, need, counts)
		}
	}
}

// P15.3: for all bytes that a call may ask for: a block as large as they need is enough, one that is a word smaller is not.
func TestBytesFit(t *testing.T) {
	for n := 1; n <= mostBytes; n++ {
		need := fit.Need(n)
		enough, small := row(5, -need, 3), row(5, -(need-1), 3)
		if fit.Choose(enough, need, nil) != 1 || fit.Choose(small, need, nil) != -1 {
			t.Errorf("%d bytes", n)
		}
		if got := fit.Takes(need, need); got != need || 8*(got-1) < n || need > mostNeed {
			t.Errorf("%d bytes: %d words", n, got)
		}
	}
}

// R3: as many blocks as there are, it ends.
func TestManyBlocks(t *testing.T) {
	l := slices.Repeat(row(-9, 3, -7), 100000)
	got := fit.Fits(l, 6)
	if len(got) != 100000 || got[0] != 2 || got[99999] != len(l)-1 {
		t.Error(len(got))
	}
	if got := fit.Choose(l, 8, []int{5}); got != 0 {
		t.Error(got)
	}
}

// R2: nothing that is handed in is changed, nothing behind its length is read or written.
func TestHandedIn(t *testing.T) {
	l := row(-5, 27, -4, 28, -4, 2, -3)
	counts := []int{4, 3, 0, 9}
	wasBlocks, wasCounts := slices.Clone(l), slices.Clone(counts)
	check(t, l, 3, counts)
	check(t, l[:6], 3, counts[:2])
	check(t, l[:1], 3, counts[:0])
	check(t, l[:0], 3, counts)
	if got := fit.Choose(l[:5], 3, counts[:2]); got != 4 {
		t.Error(got)
	}
	if got := fit.Choose(l[:2], 4, counts[:0]); got != 0 {
		t.Error(got)
	}
	if !slices.Equal(l, wasBlocks) || !slices.Equal(counts, wasCounts) {
		t.Error(l, counts)
	}
}

// R2, R6: what is told is new memory, and asked again, behind others, it is the same.
func TestSameAgain(t *testing.T) {
	l := row(-5, 3, -4, 2, -4, 6)
	first := fit.Fits(l, 3)
	for i := range first[:cap(first)] {
		first[:cap(first)][i] = 77
	}
	if got := fit.Fits(l, 5); !slices.Equal(got, []int{0}) {
		t.Error(got)
	}
	second := fit.Fits(l, 3)
	clear(l)
	if !slices.Equal(second, []int{2, 4}) {
		t.Error(second)
	}
	if got := fit.Fits(l, 3); len(got) != 0 {
		t.Error(got)
	}
	for range 3 {
		if got := fit.Choose(row(-4, 28, -4), 3, []int{2, 1}); got != 2 {
			t.Error(got)
		}
		if fit.Need(9) != 3 || fit.Takes(4, 3) != 4 || fit.Choose(row(-4, 28, -4), 3, []int{1, 2}) != 0 {
			t.Error("not the same")
		}
	}
}
