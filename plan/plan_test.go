package plan_test

import (
	"math"
	"testing"

	"darning/api"
	"darning/count"
	"darning/nvm"
	"darning/plan"
	"darning/turn"
)

// These are the document's numbers, written anew.
const (
	logLines  = 16
	words     = 8
	pageLines = 4
	mostLines = 64
	mostSpare = 16
)

// numbers are those at the edges of each field, ordinary ones, and those that a smaller kind of number, or a sum or product that goes round, would take for one that may be.
func numbers() []int {
	return []int{
		math.MinInt, math.MinInt + 1, math.MinInt + 5, -1 << 32, -1<<32 + 5, -65, -17, -16, -2, -1, 0, 1, 2, 3, 4, 5, 8, 15, 16, 17, 63, 64, 65, 99, 100, 101, 256, 260, 999, 1000, 1001,
		1 << 16, 1<<16 + 5, 1 << 32, 1<<32 + 5, 1<<61 + 1, 1 << 62, math.MaxInt - 16, math.MaxInt - 1, math.MaxInt,
	}
}

// may is what the chapter says of a plan.
func may(p api.Plan) bool {
	switch {
	case p.Lines < 1 || p.Lines > 64, p.Spare < 0 || p.Spare > 16:
		return false
	case p.Period < 1 || p.Period > 1000, p.Batch < 1 || p.Batch > 100:
		return false
	}
	return true
}

// plans are all that have lines and spare ones as the heap can have them.
func plans() []api.Plan {
	var all []api.Plan
	for lines := 1; lines <= mostLines; lines++ {
		for spare := 0; spare <= mostSpare; spare++ {
			all = append(all, api.Plan{Lines: lines, Spare: spare, Period: 1 + lines*15, Batch: 100 - lines})
		}
	}
	return all
}

// sizes is what is told of a plan beside its homes.
type sizes struct{ words, pages, logical, device int }

func told(p api.Plan) sizes {
	return sizes{plan.Words(p), plan.Pages(p), plan.Logical(p), plan.Device(p)}
}

// laid is where all is of a plan that may be, line by line.
func laid(p api.Plan) sizes {
	s := sizes{logical: logLines}
	for line := range p.Lines {
		if line%pageLines == 0 {
			s.pages++
		}
		s.words += words
		s.logical++
	}
	s.device = s.logical + 1
	for range p.Spare {
		s.device++
	}
	return s
}

// check holds all that is told of a plan against the chapter.
func check(t *testing.T, p api.Plan) {
	t.Helper()
	if got := plan.May(p); got != may(p) {
		t.Fatalf("%v: %v", p, got)
	}
	want := sizes{}
	if may(p) {
		want = laid(p)
	}
	if got := told(p); got != want {
		t.Fatalf("%v: %v, not %v", p, got, want)
	}
}

// checkHomes holds the homes of lines, at the edges and beyond, against the chapter.
func checkHomes(t *testing.T, p api.Plan) {
	t.Helper()
	asked := numbers()
	for d := -2; d <= 2; d++ {
		asked = append(asked, p.Lines+d)
	}
	for _, line := range asked {
		want := -1
		if may(p) && line >= 0 && line < p.Lines {
			want = logLines + line
		}
		if got := plan.Home(p, line); got != want {
			t.Fatalf("%v, line %d: %d, not %d", p, line, got, want)
		}
	}
}

// P11.1: plans whose sizes are written out, the document's example among them.
func TestByHand(t *testing.T) {
	for i, x := range []struct {
		p api.Plan
		s sizes
	}{
		{api.Plan{Lines: 4, Spare: 2, Period: 1, Batch: 1}, sizes{32, 1, 20, 23}},
		{api.Plan{Lines: 1, Spare: 0, Period: 1, Batch: 1}, sizes{8, 1, 17, 18}},
		{api.Plan{Lines: 3, Spare: 16, Period: 1000, Batch: 100}, sizes{24, 1, 19, 36}},
		{api.Plan{Lines: 5, Spare: 1, Period: 7, Batch: 9}, sizes{40, 2, 21, 23}},
		{api.Plan{Lines: 8, Spare: 8, Period: 500, Batch: 50}, sizes{64, 2, 24, 33}},
		{api.Plan{Lines: 9, Spare: 3, Period: 500, Batch: 50}, sizes{72, 3, 25, 29}},
		{api.Plan{Lines: 60, Spare: 0, Period: 3, Batch: 3}, sizes{480, 15, 76, 77}},
		{api.Plan{Lines: 61, Spare: 0, Period: 3, Batch: 3}, sizes{488, 16, 77, 78}},
		{api.Plan{Lines: 63, Spare: 15, Period: 999, Batch: 99}, sizes{504, 16, 79, 95}},
		{api.Plan{Lines: 64, Spare: 16, Period: 1000, Batch: 100}, sizes{512, 16, 80, 97}},
	} {
		if got := told(x.p); !plan.May(x.p) || got != x.s {
			t.Errorf("row %d: %v %v", i, plan.May(x.p), got)
		}
	}
}

// P11.1: each field by itself refuses what is out of its bounds, and nothing else; what may not be is of no size, and no line of it has a home.
func TestEachField(t *testing.T) {
	for _, p := range []api.Plan{{Lines: 1, Period: 1, Batch: 1}, {Lines: 4, Spare: 2, Period: 10, Batch: 5}, {Lines: 64, Spare: 16, Period: 1000, Batch: 100}} {
		for _, n := range numbers() {
			for _, q := range []api.Plan{
				{Lines: n, Spare: p.Spare, Period: p.Period, Batch: p.Batch},
				{Lines: p.Lines, Spare: n, Period: p.Period, Batch: p.Batch},
				{Lines: p.Lines, Spare: p.Spare, Period: n, Batch: p.Batch},
				{Lines: p.Lines, Spare: p.Spare, Period: p.Period, Batch: n},
			} {
				check(t, q)
				checkHomes(t, q)
			}
		}
	}
}

// P11.1: bounds written out, so that no field has another one's.
func TestBounds(t *testing.T) {
	for i, x := range []struct {
		p   api.Plan
		may bool
	}{
		{api.Plan{Lines: 0, Spare: 0, Period: 1, Batch: 1}, false},
		{api.Plan{Lines: 65, Spare: 0, Period: 1, Batch: 1}, false},
		{api.Plan{Lines: 1, Spare: -1, Period: 1, Batch: 1}, false},
		{api.Plan{Lines: 1, Spare: 17, Period: 1, Batch: 1}, false},
		{api.Plan{Lines: 1, Spare: 16, Period: 0, Batch: 1}, false},
		{api.Plan{Lines: 1, Spare: 16, Period: 1001, Batch: 1}, false},
		{api.Plan{Lines: 1, Spare: 16, Period: 101, Batch: 1}, true},
		{api.Plan{Lines: 1, Spare: 16, Period: 1, Batch: 0}, false},
		{api.Plan{Lines: 1, Spare: 16, Period: 1, Batch: 101}, false},
		{api.Plan{Lines: 1, Spare: 16, Period: 1, Batch: 65}, true},
		{api.Plan{}, false},
		{api.Plan{Lines: -1, Spare: -1, Period: -1, Batch: -1}, false},
		{api.Plan{Lines: math.MaxInt, Spare: math.MaxInt, Period: math.MaxInt, Batch: math.MaxInt}, false},
		{api.Plan{Lines: math.MinInt, Spare: math.MinInt, Period: math.MinInt, Batch: math.MinInt}, false},
	} {
		if got := plan.May(x.p); got != x.may {
			t.Errorf("row %d: %v", i, got)
		}
	}
}

// P11.1, R1, R3: all fields at their edges and far away together.
func TestFieldsTogether(t *testing.T) {
	edges := []int{math.MinInt, -1, 0, 1, 16, 17, 64, 65, 100, 101, 1000, 1001, 1<<32 + 1, 1 << 62, math.MaxInt}
	for _, lines := range edges {
		for _, spare := range edges {
			for _, period := range edges {
				for _, batch := range edges {
					p := api.Plan{Lines: lines, Spare: spare, Period: period, Batch: batch}
					check(t, p)
					if !may(p) && (plan.Home(p, 0) != -1 || plan.Home(p, lines-1) != -1) {
						t.Fatal(p)
					}
				}
			}
		}
	}
}

// P11.1: all that may be, of all sizes.
func TestAllSizes(t *testing.T) {
	for _, p := range plans() {
		check(t, p)
		checkHomes(t, p)
	}
}

// P11.1: how it wears has no say in where all is.
func TestPeriodAndBatchNoSay(t *testing.T) {
	want := told(api.Plan{Lines: 13, Spare: 5, Period: 1, Batch: 1})
	for period := 1; period <= 1000; period++ {
		for _, batch := range []int{1, 2, 50, 99, 100} {
			p := api.Plan{Lines: 13, Spare: 5, Period: period, Batch: batch}
			if !plan.May(p) || told(p) != want || plan.Home(p, 12) != 28 {
				t.Fatal(p, told(p))
			}
		}
	}
}

// P11.2: every line of the heap has a home of its own, behind the log, and the homes fill what is logical.
func TestHomesApart(t *testing.T) {
	for _, p := range plans() {
		taken := map[int]int{}
		for line := range p.Lines {
			home := plan.Home(p, line)
			if home < logLines || home >= plan.Logical(p) {
				t.Fatalf("%v: line %d at %d", p, line, home)
			}
			taken[home]++
		}
		if len(taken) != p.Lines || plan.Logical(p)-logLines != p.Lines {
			t.Fatalf("%v: %d homes of %d lines", p, len(taken), p.Lines)
		}
	}
}

// P11.1: a heap's pages are those that count tells of its lines, and there is a Count of so many.
func TestPagesAsCounted(t *testing.T) {
	for _, p := range plans() {
		seen := map[int]int{}
		for line := range p.Lines {
			seen[count.Page(line)]++
		}
		pages := plan.Pages(p)
		if len(seen) != pages || seen[pages-1] == 0 {
			t.Fatalf("%v: %d pages, not %d", p, pages, len(seen))
		}
		if count.New(p.Batch, make([]int, pages)...) == nil {
			t.Fatalf("%v: no Count of %d pages", p, pages)
		}
	}
}

// P11.1: on a memory of so many lines just so many go round, with so many spare ones.
func TestOnAMemory(t *testing.T) {
	for _, p := range plans() {
		m := nvm.New(plan.Device(p), nil)
		if m == nil {
			t.Fatalf("%v: no memory of %d lines", p, plan.Device(p))
		}
		x := turn.New(m, plan.Logical(p), p.Spare, p.Period)
		if x == nil || x.Lines() != plan.Logical(p) || x.Left() != p.Spare {
			t.Fatalf("%v: %d lines go round, %d are spare", p, x.Lines(), x.Left())
		}
		d := api.Line{uint64(p.Lines), uint64(p.Spare)}
		last := plan.Home(p, p.Lines-1)
		if err := x.Put(last, d); err != api.OK {
			t.Fatalf("%v: line %d: %d", p, last, err)
		}
		if got, err := x.Get(last); got != d || err != api.OK {
			t.Fatalf("%v: line %d: %v, %d", p, last, got, err)
		}
		if err := x.Put(last+1, d); err != api.ErrArg {
			t.Fatalf("%v: line %d: %d", p, last+1, err)
		}
	}
}

// R6: asked again, behind others, the answers are the same.
func TestSameAgain(t *testing.T) {
	p := api.Plan{Lines: 11, Spare: 4, Period: 20, Batch: 6}
	first := told(p)
	for _, n := range numbers() {
		other := api.Plan{Lines: n, Spare: 1, Period: 1, Batch: 1}
		plan.May(other)
		told(other)
		plan.Home(other, n)
		if again := told(p); again != first || plan.Home(p, 10) != 26 || plan.Home(p, 11) != -1 {
			t.Fatalf("behind %v: %v, not %v", other, again, first)
		}
	}
}
