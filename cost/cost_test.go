package cost_test

import (
	"math"
	"testing"

	"darning/api"
	"darning/cost"
)

// These are the document's numbers, written anew.
const (
	mostBytes    = 448
	mostReplaced = 16
)

// farNumbers are at the edges of an int, and those that a smaller kind of number, or a sum or product that goes round, would take for one that may be.
func farNumbers() []int {
	all := []int{math.MinInt, math.MinInt + 1, math.MinInt + 16, math.MaxInt - 16, math.MaxInt - 1, math.MaxInt}
	for _, bit := range []int{16, 31, 32, 33, 48, 58, 60, 61, 62} {
		for _, d := range []int{-64, -1, 0, 1, 8, 64, 448} {
			all = append(all, 1<<bit+d, -(1<<bit)+d)
		}
	}
	return all
}

func alloc(n int) api.Op { return api.Op{Kind: api.OAlloc, N: n} }
func write(n int) api.Op { return api.Op{Kind: api.OWrite, Data: make([]byte, n)} }

var (
	free = api.Op{Kind: api.OFree, Off: 8}
	root = api.Op{Kind: api.ORoot, Off: 8}
)

// P24.1: costs written out, the document's example among them.
func TestByHand(t *testing.T) {
	for i, x := range []struct {
		op       api.Op
		replaced int
		lines    int
		writes   int
	}{
		{free, 0, 1, 36},
		{free, 1, 1, 40},
		{free, 16, 1, 100},
		{free, 17, 1, 0},
		{free, -1, 1, 0},
		{root, 0, 0, 1},
		{root, 16, 0, 1},
		{root, 17, 0, 0},
		{root, -1, 0, 0},
		{alloc(-1), 0, 0, 0},
		{alloc(0), 0, 4, 72},
		{alloc(1), 0, 4, 72},
		{alloc(63), 2, 4, 80},
		{alloc(64), 0, 5, 84},
		{alloc(447), 0, 10, 144},
		{alloc(448), 0, 11, 156},
		{alloc(448), 16, 11, 220},
		{alloc(449), 0, 0, 0},
		{alloc(449), 3, 0, 0},
		{write(0), 0, 2, 48},
		{write(1), 0, 2, 48},
		{write(63), 0, 2, 48},
		{write(64), 0, 3, 60},
		{write(127), 1, 3, 64},
		{write(448), 0, 9, 132},
		{write(449), 0, 0, 0},
		{write(5000), 3, 0, 0},
		{api.Op{Kind: api.ORead, Off: 8, N: 8}, 1, 0, 0},
		{api.Op{Kind: api.OGet}, 1, 0, 0},
		{api.Op{Kind: api.OCut, N: 8}, 1, 0, 0},
		{api.Op{Kind: api.OStart}, 1, 0, 0},
		{api.Op{}, 1, 0, 0},
		{api.Op{Kind: 9, N: 8, Data: []byte{1}}, 1, 0, 0},
		{api.Op{Kind: -1, N: 8, Data: []byte{1}}, 1, 0, 0},
	} {
		if lines, writes := cost.Lines(x.op), cost.Op(x.op, x.replaced); lines != x.lines || writes != x.writes {
			t.Errorf("row %d: %d lines, %d writes", i, lines, writes)
		}
	}
}

// P24.1: the fields that a kind doesn't name have no say.
func TestOtherFieldsNoSay(t *testing.T) {
	for _, x := range []struct {
		op    api.Op
		lines int
	}{
		{api.Op{Kind: api.OAlloc, Off: 500, N: 8, Mask: 255, Data: make([]byte, 500)}, 4},
		{api.Op{Kind: api.OWrite, Off: -1, N: 500, Mask: 255, Data: make([]byte, 70)}, 3},
		{api.Op{Kind: api.OFree, Off: math.MinInt, N: 500, Mask: -1, Data: make([]byte, 500)}, 1},
		{api.Op{Kind: api.ORoot, Off: 500, N: 70, Mask: 255, Data: make([]byte, 70)}, 0},
	} {
		if got := cost.Lines(x.op); got != x.lines {
			t.Errorf("%v: %d lines", x.op.Kind, got)
		}
	}
}

// P24.1: all numbers of bytes, and of lines that are replaced, against the chapter, byte by byte.
func TestAllNumbers(t *testing.T) {
	for replaced := -3; replaced <= mostReplaced+3; replaced++ {
		may := replaced >= 0 && replaced <= mostReplaced
		full := 0
		for n := range mostBytes + 1 {
			if n > 0 && n%64 == 0 {
				full++
			}
			a, w := 0, 0
			if may {
				a, w = 12*(full+4)+24+4*replaced, 12*(full+2)+24+4*replaced
			}
			if cost.Lines(alloc(n)) != full+4 || cost.Op(alloc(n), replaced) != a {
				t.Fatalf("alloc %d, %d replaced: %d", n, replaced, cost.Op(alloc(n), replaced))
			}
			if cost.Lines(write(n)) != full+2 || cost.Op(write(n), replaced) != w {
				t.Fatalf("write %d, %d replaced: %d", n, replaced, cost.Op(write(n), replaced))
			}
		}
		recovered := 0
		if may {
			recovered = 192 + 4*replaced
		}
		if got := cost.Recover(replaced); got != recovered {
			t.Errorf("a recovery, %d replaced: %d", replaced, got)
		}
	}
}

// P24.1, R1, R3: numbers far away.
func TestFarNumbers(t *testing.T) {
	for _, n := range append(farNumbers(), -1, mostBytes+1) {
		if cost.Lines(alloc(n)) != 0 || cost.Op(alloc(n), 0) != 0 {
			t.Errorf("alloc %d: %d, %d", n, cost.Lines(alloc(n)), cost.Op(alloc(n), 0))
		}
	}
	for _, replaced := range append(farNumbers(), -1, mostReplaced+1) {
		if cost.Recover(replaced) != 0 {
			t.Errorf("a recovery, %d replaced: %d", replaced, cost.Recover(replaced))
		}
		for _, op := range []api.Op{alloc(8), write(8), free, root, {Kind: api.OGet}} {
			if got := cost.Op(op, replaced); got != 0 {
				t.Errorf("%d, %d replaced: %d", op.Kind, replaced, got)
			}
		}
	}
	for _, kind := range farNumbers() {
		op := api.Op{Kind: kind, N: 8, Data: make([]byte, 8)}
		if cost.Lines(op) != 0 || cost.Op(op, 0) != 0 {
			t.Errorf("kind %d: %d", kind, cost.Op(op, 0))
		}
	}
}

// P24.1: a Format has so many writes, of whatever plan that may be; none of one that may not be.
func TestFormat(t *testing.T) {
	for i, x := range []struct {
		p api.Plan
		n int
	}{
		{api.Plan{Lines: 1, Period: 1, Batch: 1}, 200},
		{api.Plan{Lines: 4, Spare: 2, Period: 10, Batch: 5}, 200},
		{api.Plan{Lines: 64, Spare: 16, Period: 1000, Batch: 100}, 200},
		{api.Plan{}, 0},
		{api.Plan{Lines: 0, Period: 1, Batch: 1}, 0},
		{api.Plan{Lines: 65, Period: 1, Batch: 1}, 0},
		{api.Plan{Lines: 1, Spare: -1, Period: 1, Batch: 1}, 0},
		{api.Plan{Lines: 1, Spare: 17, Period: 1, Batch: 1}, 0},
		{api.Plan{Lines: 1, Period: 0, Batch: 1}, 0},
		{api.Plan{Lines: 1, Period: 1001, Batch: 1}, 0},
		{api.Plan{Lines: 1, Period: 1, Batch: 0}, 0},
		{api.Plan{Lines: 1, Period: 1, Batch: 101}, 0},
	} {
		if got := cost.Format(x.p); got != x.n {
			t.Errorf("row %d: %d", i, got)
		}
	}
}

// P24.2: more bytes, and more lines replaced, cost no less.
func TestNoLess(t *testing.T) {
	for replaced := 0; replaced <= mostReplaced; replaced++ {
		for n := range mostBytes {
			if cost.Op(alloc(n+1), replaced) < cost.Op(alloc(n), replaced) || cost.Op(write(n+1), replaced) < cost.Op(write(n), replaced) {
				t.Fatalf("%d bytes, %d replaced", n, replaced)
			}
		}
		if replaced == mostReplaced {
			break
		}
		if cost.Recover(replaced+1) < cost.Recover(replaced) {
			t.Errorf("a recovery, %d replaced", replaced)
		}
		for _, op := range []api.Op{alloc(0), alloc(448), write(0), write(448), free, root, {Kind: api.ORead}, {}} {
			if cost.Op(op, replaced+1) < cost.Op(op, replaced) {
				t.Errorf("%d, %d replaced", op.Kind, replaced)
			}
		}
	}
}

// R2, R6: what is handed in is as it was, and the answers are the same again.
func TestHandedIn(t *testing.T) {
	data := []byte{1, 2, 3, 4, 5}
	op := api.Op{Kind: api.OWrite, Off: 1, N: 2, Mask: 3, Data: data[:3]}
	for range 3 {
		if cost.Op(op, 2) != 56 || cost.Lines(op) != 2 || string(data) != "\x01\x02\x03\x04\x05" {
			t.Error(cost.Op(op, 2), cost.Lines(op), data)
		}
		cost.Op(alloc(400), 9)
		cost.Recover(3)
	}
}
