package count_test

import (
	"math"
	"slices"
	"testing"

	"darning/api"
	"darning/count"
)

const most = 1 << 40

// numbers are ordinary ones, those at the edges, and those that a smaller kind of number would take for a page that there is.
func numbers() []int {
	return []int{math.MinInt, math.MinInt + 1, -1 << 32, -2, -1, 0, 1, 2, 3, 4, 15, 16, 17, 99, 100, 101, 1 << 32, 1<<32 + 1, most - 1, most, most + 1, math.MaxInt - 1, math.MaxInt}
}

// brought is what New's words say of a count.
func brought(k int) int {
	switch {
	case k < 0:
		return 0
	case k > most:
		return most
	}
	return k
}

// diary is a Count made otherwise: it has all that was noted, and works each answer out from that.
type diary struct {
	batch int
	first []int
	noted []int
}

func (d *diary) has(page int) bool {
	return page >= 0 && page < len(d.first)
}

// times tells how often a page was noted.
func (d *diary) times(page int) int {
	n := 0
	for _, p := range d.noted {
		if p == page {
			n++
		}
	}
	return n
}

func (d *diary) note(page int) (int, bool) {
	if !d.has(page) {
		return 0, false
	}
	d.noted = append(d.noted, page)
	return d.of(page), d.lag(page) == 0
}

func (d *diary) of(page int) int {
	if !d.has(page) {
		return 0
	}
	return d.first[page] + d.times(page)
}

func (d *diary) lag(page int) int {
	return d.times(page) % d.batch
}

func (d *diary) all() []int {
	var all []int
	for page := range d.first {
		all = append(all, d.of(page))
	}
	return all
}

// compare holds all that a Count tells against the diary.
func compare(t *testing.T, c *count.Count, d *diary) {
	t.Helper()
	if got := c.All(); !slices.Equal(got, d.all()) {
		t.Fatalf("batch %d, of %v: all %v, not %v", d.batch, d.first, got, d.all())
	}
	for page := -2; page < len(d.first)+2; page++ {
		if c.Of(page) != d.of(page) || c.Lag(page) != d.lag(page) {
			t.Fatalf("batch %d, page %d: %d, lag %d; not %d, %d", d.batch, page, c.Of(page), c.Lag(page), d.of(page), d.lag(page))
		}
	}
}

// note notes a page, and holds what is told against the diary.
func note(t *testing.T, c *count.Count, d *diary, page int) {
	t.Helper()
	n, keeps := c.Note(page)
	if wantN, wantKeeps := d.note(page); n != wantN || keeps != wantKeeps {
		t.Fatalf("batch %d, page %d: %d %v, not %d %v", d.batch, page, n, keeps, wantN, wantKeeps)
	}
}

// P10.1: Page is line by PageLines, down; of a line below 0 it is 0.
func TestPage(t *testing.T) {
	for _, x := range [][2]int{
		{0, 0}, {1, 0}, {3, 0}, {4, 1}, {5, 1}, {7, 1}, {8, 2}, {60, 15}, {63, 15}, {64, 16}, {1 << 32, 1 << 30}, {1<<32 + 3, 1 << 30},
		{-1, 0}, {-3, 0}, {-4, 0}, {-5, 0}, {-64, 0}, {math.MinInt, 0}, {math.MinInt + 1, 0},
		{math.MaxInt, 1<<61 - 1}, {math.MaxInt - 3, 1<<61 - 1}, {math.MaxInt - 4, 1<<61 - 2},
	} {
		if got := count.Page(x[0]); got != x[1] {
			t.Errorf("line %d: %d, not %d", x[0], got, x[1])
		}
	}
	for line := range 1000 {
		if page := count.Page(line); page*api.PageLines > line || (page+1)*api.PageLines <= line {
			t.Errorf("line %d: %d", line, page)
		}
	}
}

// P10.1: New refuses a batch that is not 1 to MaxBatch, and more than MaxPages kept, nothing else.
func TestNew(t *testing.T) {
	for _, batch := range numbers() {
		for _, pages := range []int{0, 1, 2, 15, 16, 17, 18, 100, 65536, 65537} {
			c := count.New(batch, make([]int, pages)...)
			may := batch >= 1 && batch <= 100 && pages <= 16
			if (c != nil) != may {
				t.Fatalf("batch %d, %d pages: %v", batch, pages, c)
			}
			if may && len(c.All()) != pages {
				t.Fatalf("batch %d, %d pages: %v", batch, pages, c.All())
			}
		}
	}
	if c := count.New(5); c == nil || len(c.All()) != 0 {
		t.Error("none is kept: a Count without pages")
	}
}

// P10.1: each page begins with its own count, brought to 0 to 2^40, all of which is kept.
func TestBegins(t *testing.T) {
	for _, l := range [][]int{
		{}, {7}, {0}, {-1}, {most - 1, most, most + 1}, {math.MinInt, math.MaxInt}, {3, 1, 2}, {-5, 5, -5, 5}, {1<<32 + 1, 1 << 32, -1 << 32},
		{1, 2, 3, 4, 5, 6, 7, 8, 9, 10, 11, 12, 13, 14, 15, 16}, slices.Repeat([]int{math.MaxInt}, 16), slices.Repeat([]int{math.MinInt}, 16),
	} {
		c := count.New(3, l...)
		var want []int
		for page, k := range l {
			want = append(want, brought(k))
			if c.Of(page) != brought(k) || c.Lag(page) != 0 {
				t.Errorf("%v, page %d: %d, lag %d", l, page, c.Of(page), c.Lag(page))
			}
		}
		if got := c.All(); !slices.Equal(got, want) {
			t.Errorf("%v: %v", l, got)
		}
	}
}

// P10.2: the document's example, and what follows on it.
func TestNoteByHand(t *testing.T) {
	c := count.New(2, 0)
	for i, x := range []struct {
		n     int
		keeps bool
		lag   int
	}{{1, false, 1}, {2, true, 0}, {3, false, 1}, {4, true, 0}, {5, false, 1}} {
		if n, keeps := c.Note(0); n != x.n || keeps != x.keeps || c.Lag(0) != x.lag || c.Of(0) != x.n {
			t.Errorf("%d: %d %v, lag %d, of %d", i, n, keeps, c.Lag(0), c.Of(0))
		}
	}
}

// P10.2: each page has a batch of its own: that one is kept leaves the others as they were.
func TestPagesApart(t *testing.T) {
	c := count.New(3, 10, 20)
	for i, x := range []struct {
		page, n int
		keeps   bool
		lags    [2]int
	}{
		{0, 11, false, [2]int{1, 0}}, {1, 21, false, [2]int{1, 1}}, {0, 12, false, [2]int{2, 1}}, {0, 13, true, [2]int{0, 1}}, {1, 22, false, [2]int{0, 2}},
		{0, 14, false, [2]int{1, 2}}, {1, 23, true, [2]int{1, 0}}, {0, 15, false, [2]int{2, 0}}, {0, 16, true, [2]int{0, 0}},
	} {
		if n, keeps := c.Note(x.page); n != x.n || keeps != x.keeps || c.Lag(0) != x.lags[0] || c.Lag(1) != x.lags[1] {
			t.Errorf("%d: %d %v, lags %d %d", i, n, keeps, c.Lag(0), c.Lag(1))
		}
	}
}

// P10.2: what is to be kept hangs on how many were not kept, not on the count itself.
func TestBatchFromWhatWasKept(t *testing.T) {
	c := count.New(10, 7, most, math.MaxInt, -3)
	for page, first := range []int{7, most, most, 0} {
		for i := 1; i <= 25; i++ {
			if n, keeps := c.Note(page); n != first+i || keeps != (i == 10 || i == 20) {
				t.Errorf("page %d, %d: %d %v", page, i, n, keeps)
			}
		}
	}
}

// P10.2: at each batch there may be, the batch-th is the first to be kept, then each batch-th.
func TestEachBatch(t *testing.T) {
	for batch := 1; batch <= 100; batch++ {
		c := count.New(batch, 0, 5)
		for i := 1; i <= 3*batch+1; i++ {
			if n, keeps := c.Note(1); n != 5+i || keeps != (i%batch == 0) || c.Lag(1) != i%batch || c.Of(0) != 0 || c.Lag(0) != 0 {
				t.Fatalf("batch %d, %d: %d %v, lag %d", batch, i, n, keeps, c.Lag(1))
			}
		}
	}
}

// P10.1, P10.2: of a page that there is not nothing is told, and nothing is noted.
func TestNoSuchPage(t *testing.T) {
	for _, pages := range []int{0, 1, 2, 16} {
		c := count.New(2, slices.Repeat([]int{9}, pages)...)
		for _, page := range numbers() {
			if page >= 0 && page < pages {
				continue
			}
			for range 3 {
				if n, keeps := c.Note(page); n != 0 || keeps || c.Of(page) != 0 || c.Lag(page) != 0 {
					t.Errorf("page %d of %d: %d %v", page, pages, n, keeps)
				}
			}
		}
		if got := c.All(); !slices.Equal(got, slices.Repeat([]int{9}, pages)) {
			t.Errorf("%d pages: %v", pages, got)
		}
		for page := range pages {
			if c.Lag(page) != 0 {
				t.Errorf("page %d of %d: lag %d", page, pages, c.Lag(page))
			}
		}
	}
}

// R3: a nil Count tells zero values, and so does one that New did not make.
func TestNil(t *testing.T) {
	for _, c := range []*count.Count{nil, {}} {
		for _, page := range numbers() {
			if n, keeps := c.Note(page); n != 0 || keeps || c.Of(page) != 0 || c.Lag(page) != 0 {
				t.Errorf("page %d: %d %v", page, n, keeps)
			}
		}
		if len(c.All()) != 0 {
			t.Error(c.All())
		}
	}
	if got := (*count.Count)(nil).All(); got != nil {
		t.Error(got)
	}
}

// P10.1, P10.2: long runs against a Count made otherwise.
func TestRuns(t *testing.T) {
	for _, batch := range []int{1, 2, 3, 7, 16, 99, 100} {
		for _, pages := range []int{0, 1, 2, 5, 15, 16} {
			seed := uint64(batch*100 + pages)
			d := &diary{batch: batch}
			for range pages {
				seed = seed*6364136223846793005 + 1442695040888963407
				d.first = append(d.first, int(seed>>20))
			}
			c := count.New(batch, d.first...)
			for page, k := range d.first {
				d.first[page] = brought(k)
			}
			for range 400 {
				seed = seed*6364136223846793005 + 1442695040888963407
				note(t, c, d, int(seed>>33%uint64(pages+2))-1)
				compare(t, c, d)
			}
		}
	}
}

// P10.3: what is kept lags by less than batch, and never leads; a Count made of it goes on from there.
func TestKeptLags(t *testing.T) {
	for _, batch := range []int{1, 2, 3, 10, 100} {
		const pages = 4
		seed := uint64(batch)
		kept := []int{0, 5, 1000, most - 2000}
		c := count.New(batch, kept...)
		for step := range 1500 {
			seed = seed*6364136223846793005 + 1442695040888963407
			page := int(seed >> 33 % pages)
			if n, keeps := c.Note(page); keeps {
				kept[page] = n
			}
			for page, k := range kept {
				lag := c.Of(page) - k
				if lag < 0 || lag >= batch || lag != c.Lag(page) {
					t.Fatalf("batch %d, step %d, page %d: %d, kept %d, lag %d", batch, step, page, c.Of(page), k, c.Lag(page))
				}
			}
			if step == 700 {
				c = count.New(batch, kept...)
				if got := c.All(); !slices.Equal(got, kept) {
					t.Fatalf("batch %d: %v, not %v", batch, got, kept)
				}
			}
		}
	}
}

// R2: what is handed in is neither changed nor kept, and what lies behind its length not asked; what is told is the caller's own.
func TestListsApart(t *testing.T) {
	for _, behind := range []int{-1, 0, 77} {
		long := []int{-4, 3, math.MaxInt, behind, behind}
		was := slices.Clone(long)
		c := count.New(2, long[:3]...)
		c.Note(0)
		c.Note(1)
		if !slices.Equal(long, was) {
			t.Fatalf("%v became %v", was, long)
		}
		for i := range long {
			long[i] = 1000
		}
		want := []int{1, 4, most}
		all := c.All()
		if !slices.Equal(all, want) || c.Lag(2) != 0 {
			t.Fatalf("%v, lag %d", all, c.Lag(2))
		}
		other := c.All()
		for i := range all {
			all[i] = -9
		}
		all = append(all, 5)
		if !slices.Equal(other, want) || !slices.Equal(c.All(), want) || c.Of(0) != 1 || len(all) != 4 {
			t.Fatalf("%v, %v", other, c.All())
		}
	}
}

// R6: two Counts know nothing of one another, and asking changes nothing.
func TestCountsApart(t *testing.T) {
	kept := []int{1, 2}
	a, b := count.New(2, kept...), count.New(2, kept...)
	a.Note(0)
	a.Note(1)
	a.Note(1)
	for range 3 {
		if !slices.Equal(b.All(), kept) || b.Lag(0) != 0 || b.Lag(1) != 0 {
			t.Fatal(b.All())
		}
		if !slices.Equal(a.All(), []int{2, 4}) || a.Lag(0) != 1 || a.Lag(1) != 0 || a.Of(0) != 2 || a.Of(1) != 4 {
			t.Fatal(a.All())
		}
	}
	if n, keeps := b.Note(0); n != 2 || keeps {
		t.Error(n, keeps)
	}
	if n, keeps := a.Note(0); n != 3 || !keeps {
		t.Error(n, keeps)
	}
}
