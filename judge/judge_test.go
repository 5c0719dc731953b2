package judge_test

import (
	"math"
	"slices"
	"testing"

	"darning/api"
	"darning/judge"
)

// These are the document's numbers, written anew.
const (
	leastWords = 8
	mostWords  = 512
	mostBytes  = 448
)

// farNumbers are at the edges, and those that a smaller kind of number would take for another one.
func farNumbers() []int {
	all := []int{math.MinInt, math.MinInt + 1, math.MinInt + 8, math.MinInt + 448, math.MaxInt - 448, math.MaxInt - 8, math.MaxInt - 7, math.MaxInt - 1, math.MaxInt}
	for _, bit := range []int{8, 16, 31, 32, 33, 48, 60, 61, 62} {
		for _, d := range []int{-8, -1, 0, 1, 2, 8, 16, 24, 64} {
			all = append(all, 1<<bit+d, -(1<<bit)+d)
		}
	}
	return all
}

func alloc(n int) api.Op     { return api.Op{Kind: api.OAlloc, N: n} }
func free(off int) api.Op    { return api.Op{Kind: api.OFree, Off: off} }
func read(off, n int) api.Op { return api.Op{Kind: api.ORead, Off: off, N: n} }
func root(off int) api.Op    { return api.Op{Kind: api.ORoot, Off: off} }
func write(off int, b ...byte) api.Op {
	return api.Op{Kind: api.OWrite, Off: off, Data: b}
}

var get = api.Op{Kind: api.OGet}

func errno(err api.Errno) api.Ans { return api.Ans{Err: err} }
func at(off int) api.Ans          { return api.Ans{Off: off} }
func told(b ...byte) api.Ans      { return api.Ans{Data: b} }

var done api.Ans

// row is blocks of such sizes, one behind the other; those below 0 are free.
func row(sizes ...int) []api.Block {
	var l []api.Block
	at := 0
	for _, n := range sizes {
		l = append(l, api.Block{At: at, Size: max(n, -n), Used: n > 0})
		at += max(n, -n)
	}
	return l
}

// step is an operation, what is told of it, and whether that may be; and how all is then.
type step struct {
	op   api.Op
	a    api.Ans
	may  bool
	l    []api.Block
	root int
	worn bool
}

// walk asks a judge of 16 words step by step.
func walk(t *testing.T, steps []step) {
	t.Helper()
	j := judge.New(16)
	for i, x := range steps {
		if may := j.See(x.op, x.a); may != x.may || !slices.Equal(j.Blocks(), x.l) || j.Root() != x.root || j.Worn() != x.worn {
			t.Errorf("step %d: %v, %v, root %d, worn %v", i, may, j.Blocks(), j.Root(), j.Worn())
		}
	}
}

// P25.1, P25.2: of an OAlloc, the document's example among them.
func TestAllocByHand(t *testing.T) {
	none, one, two, three := row(-16), row(2, -14), row(2, 3, -11), row(2, -3, 11)
	walk(t, []step{
		{alloc(8), at(0), false, none, 0, false},
		{alloc(8), at(16), false, none, 0, false},
		{alloc(8), at(9), false, none, 0, false},
		{alloc(8), errno(api.ErrSpace), false, none, 0, false},
		{alloc(8), errno(api.ErrArg), false, none, 0, false},
		{alloc(8), errno(api.ErrState), false, none, 0, false},
		{alloc(8), errno(api.ErrForm), false, none, 0, false},
		{alloc(8), errno(api.ErrDown), false, none, 0, false},
		{alloc(8), api.Ans{Off: 8, Data: []byte{0}}, false, none, 0, false},
		{alloc(8), api.Ans{Err: api.ErrWorn, Off: 8}, false, none, 0, false},
		{alloc(8), api.Ans{Err: api.ErrWorn, Data: []byte{0}}, false, none, 0, false},
		{alloc(8), api.Ans{Off: 8, Data: []byte{}}, true, one, 0, false}, // an empty list is none
		{alloc(8), at(8), false, one, 0, false},                          // that block is taken now
		{alloc(13), at(24), true, two, 0, false},
		{alloc(81), at(48), false, two, 0, false}, // twelve words: one too many
		{alloc(81), api.Ans{Err: api.ErrSpace, Off: 48}, false, two, 0, false},
		{alloc(81), errno(api.ErrSpace), true, two, 0, false},
		{alloc(80), errno(api.ErrSpace), false, two, 0, false},
		{alloc(448), errno(api.ErrSpace), true, two, 0, false},
		{alloc(449), errno(api.ErrSpace), false, two, 0, false},
		{alloc(449), errno(api.ErrArg), true, two, 0, false},
		{alloc(449), errno(api.ErrWorn), false, two, 0, false},
		{alloc(0), errno(api.ErrArg), true, two, 0, false},
		{alloc(-1), errno(api.ErrArg), true, two, 0, false},
		{alloc(0), done, false, two, 0, false},
		{alloc(0), api.Ans{Err: api.ErrArg, Off: 8}, false, two, 0, false},
		{alloc(0), api.Ans{Err: api.ErrArg, Data: []byte{0}}, false, two, 0, false},
		{alloc(74), at(48), true, row(2, 3, 11), 0, false},
		{free(24), done, true, three, 0, false},
		{alloc(1), at(48), false, three, 0, false},
		{alloc(1), at(24), true, row(2, 3, 11), 0, false}, // all of it: one word left would be no block
		{alloc(1), errno(api.ErrSpace), true, row(2, 3, 11), 0, false},
	})
}

// P25.1: where several blocks fit, each of them may be told, and no larger one.
func TestAllocAnyThatFits(t *testing.T) {
	for _, x := range []struct {
		n   int
		off []int
	}{{8, []int{8, 40, 72}}, {1, []int{8, 40, 72}}, {9, []int{104}}, {17, []int{104}}, {25, nil}} {
		for off := -8; off < 150; off++ {
			j := judge.New(16)
			for i, bytes := range []int{8, 8, 8, 8, 8, 8, 24} { // words 2, 2, .., 4 at the end
				j.See(alloc(bytes), at(16*i+8))
			}
			j.See(free(8), done)
			j.See(free(40), done)
			j.See(free(72), done)
			j.See(free(104), done)
			if may := j.See(alloc(x.n), at(off)); may != slices.Contains(x.off, off) {
				t.Errorf("%d bytes at %d: %v", x.n, off, may)
			}
		}
	}
}

// P25.1, P25.2: of what changes a heap that is not worn.
func TestChangesByHand(t *testing.T) {
	one, two := row(2, -14), row(2, 2, -12)
	walk(t, []step{
		{free(8), errno(api.ErrArg), true, row(-16), 0, false},
		{free(8), errno(api.ErrWorn), false, row(-16), 0, false}, // nothing would be done
		{root(8), errno(api.ErrWorn), false, row(-16), 0, false},
		{write(8, 1), errno(api.ErrWorn), false, row(-16), 0, false},
		{write(8), errno(api.ErrArg), true, row(-16), 0, false},
		{write(8), done, false, row(-16), 0, false},
		{alloc(8), at(8), true, one, 0, false},
		{alloc(8), at(24), true, two, 0, false},
		{root(8), errno(api.ErrArg), false, two, 0, false},
		{root(8), at(8), false, two, 0, false},
		{root(8), told(8), false, two, 0, false},
		{root(8), done, true, two, 8, false},
		{root(16), errno(api.ErrArg), true, two, 8, false},
		{root(16), done, false, two, 8, false},
		{root(40), errno(api.ErrArg), true, two, 8, false}, // that one is free
		{free(8), done, false, two, 8, false},
		{free(8), errno(api.ErrArg), false, two, 8, false},
		{free(8), errno(api.ErrWorn), false, two, 8, false},
		{free(8), api.Ans{Err: api.ErrState, Off: 8}, false, two, 8, false},
		{free(8), errno(api.ErrState), true, two, 8, false},
		{root(0), done, true, two, 0, false},
		{free(8), at(8), false, two, 0, false},
		{free(8), errno(api.ErrState), false, two, 0, false},
		{free(8), api.Ans{Err: api.ErrWorn, Off: 8}, false, two, 0, false},
		{free(24), done, true, one, 0, false},
		{free(24), done, false, one, 0, false},
		{free(24), errno(api.ErrArg), true, one, 0, false},
		{write(8, 1, 2), at(8), false, one, 0, false},
		{write(8, 1, 2), told(1, 2), false, one, 0, false},
		{write(8, 1, 2), errno(api.ErrSpace), false, one, 0, false},
		{read(8, 8), told(0, 0, 0, 0, 0, 0, 0, 0), true, one, 0, false}, // as nothing was done
		{write(9, 1, 2), done, true, one, 0, false},
		{read(8, 8), told(0, 1, 2, 0, 0, 0, 0, 0), true, one, 0, false},
		{write(15, 1, 2), errno(api.ErrArg), true, one, 0, false},
		{write(15, 1, 2), done, false, one, 0, false},
		{write(16), done, true, one, 0, false}, // of no bytes: the first one behind it
		{write(16), errno(api.ErrWorn), false, one, 0, false},
		{write(17), errno(api.ErrArg), true, one, 0, false},
	})
}

// P25.1: what is read is what the model has, whether it is worn or not.
func TestReadsByHand(t *testing.T) {
	one := row(2, -14)
	steps := []step{
		{read(8, 2), told(7, 9), true, one, 8, false},
		{read(8, 2), told(7, 8), false, one, 8, false},
		{read(8, 2), told(7), false, one, 8, false},
		{read(8, 2), told(7, 9, 0), false, one, 8, false},
		{read(8, 2), done, false, one, 8, false},
		{read(8, 2), api.Ans{Off: 8, Data: []byte{7, 9}}, false, one, 8, false},
		{read(8, 2), api.Ans{Err: api.ErrArg, Data: []byte{7, 9}}, false, one, 8, false},
		{read(8, 2), errno(api.ErrArg), false, one, 8, false},
		{read(8, 2), errno(api.ErrWorn), false, one, 8, false},
		{read(8, 0), done, true, one, 8, false},
		{read(8, 0), told(), true, one, 8, false},
		{read(8, 0), told(7), false, one, 8, false},
		{read(16, 0), done, true, one, 8, false},
		{read(17, 0), errno(api.ErrArg), true, one, 8, false},
		{read(8, 9), errno(api.ErrArg), true, one, 8, false},
		{read(8, 9), told(7, 9, 0, 0, 0, 0, 0, 0, 0), false, one, 8, false},
		{read(8, -1), errno(api.ErrArg), true, one, 8, false},
		{read(7, 1), errno(api.ErrArg), true, one, 8, false},
		{read(24, 1), errno(api.ErrArg), true, one, 8, false},
		{get, at(8), true, one, 8, false},
		{get, at(0), false, one, 8, false},
		{get, at(9), false, one, 8, false},
		{get, api.Ans{Off: 8, Data: []byte{8}}, false, one, 8, false},
		{get, api.Ans{Err: api.ErrWorn, Off: 8}, false, one, 8, false},
		{get, errno(api.ErrWorn), false, one, 8, false},
	}
	ahead := []step{{alloc(8), at(8), true, one, 0, false}, {write(8, 7, 9), done, true, one, 0, false}, {root(8), done, true, one, 8, false}}
	walk(t, slices.Concat(ahead, steps))
	wears := []step{{free(8), errno(api.ErrState), true, one, 8, false}, {alloc(8), errno(api.ErrWorn), true, one, 8, true}}
	worn := slices.Clone(steps)
	for i := range worn {
		worn[i].worn = true
	}
	walk(t, slices.Concat(ahead, wears, worn))
}

// P25.1: from an ErrWorn on nothing is changed any more.
func TestWornByHand(t *testing.T) {
	l := row(2, 2, -12)
	ahead := []step{{alloc(8), at(8), true, row(2, -14), 0, false}, {alloc(8), at(24), true, l, 0, false}, {root(24), done, true, l, 24, false}}
	worn := []step{
		{alloc(8), at(40), false, l, 24, true},
		{alloc(8), errno(api.ErrWorn), true, l, 24, true},
		{alloc(8), errno(api.ErrSpace), false, l, 24, true},
		{alloc(300), errno(api.ErrSpace), false, l, 24, true},
		{alloc(300), errno(api.ErrWorn), true, l, 24, true},
		{alloc(0), errno(api.ErrArg), true, l, 24, true},
		{alloc(0), errno(api.ErrWorn), false, l, 24, true},
		{free(8), done, false, l, 24, true},
		{free(8), errno(api.ErrWorn), true, l, 24, true},
		{free(8), api.Ans{Err: api.ErrWorn, Off: 8}, false, l, 24, true},
		{free(8), api.Ans{Err: api.ErrWorn, Data: []byte{8}}, false, l, 24, true},
		{free(9), errno(api.ErrWorn), false, l, 24, true},
		{free(9), errno(api.ErrArg), true, l, 24, true},
		{free(24), errno(api.ErrWorn), false, l, 24, true},
		{free(24), errno(api.ErrState), true, l, 24, true},
		{root(8), done, false, l, 24, true},
		{root(8), errno(api.ErrWorn), true, l, 24, true},
		{root(0), done, false, l, 24, true},
		{root(0), errno(api.ErrWorn), true, l, 24, true},
		{root(24), errno(api.ErrWorn), true, l, 24, true}, // it would change nothing, and is an ORoot all the same
		{root(24), done, false, l, 24, true},
		{root(9), errno(api.ErrWorn), false, l, 24, true},
		{root(9), errno(api.ErrArg), true, l, 24, true},
		{write(8, 1), done, false, l, 24, true},
		{write(8, 1), errno(api.ErrWorn), true, l, 24, true},
		{write(8, 0), done, false, l, 24, true},
		{write(15, 1, 1), errno(api.ErrWorn), false, l, 24, true},
		{write(15, 1, 1), errno(api.ErrArg), true, l, 24, true},
		{write(8), done, true, l, 24, true},
		{write(8), errno(api.ErrWorn), false, l, 24, true},
		{write(32), done, true, l, 24, true},
		{write(33), errno(api.ErrArg), true, l, 24, true},
		{write(33), errno(api.ErrWorn), false, l, 24, true},
		{read(8, 1), told(0), true, l, 24, true},
		{get, at(24), true, l, 24, true},
		{api.Op{Kind: api.OStart}, errno(api.ErrArg), true, l, 24, true},
		{api.Op{Kind: api.OStart}, errno(api.ErrWorn), false, l, 24, true},
	}
	for _, op := range []api.Op{alloc(8), alloc(300), free(8), write(8, 1), root(8), root(0), root(24)} {
		first := []step{{op, errno(api.ErrWorn), true, l, 24, true}}
		walk(t, slices.Concat(ahead, first, worn))
	}
}

// P25.1, R3: other kinds tell ErrArg, and nothing else.
func TestOtherKinds(t *testing.T) {
	j := judge.New(16)
	j.See(alloc(8), at(8))
	j.See(root(8), done)
	for _, kind := range append(farNumbers(), -1, 0, api.OCut, api.OStart, 9) {
		op := api.Op{Kind: kind, Off: 8, N: 8, Data: []byte{1}}
		for err := api.Errno(-1); err < 9; err++ {
			if j.See(op, errno(err)) != (err == api.ErrArg) {
				t.Errorf("kind %d: errno %d", kind, err)
			}
		}
		if j.See(op, api.Ans{Err: api.ErrArg, Off: 8}) || j.See(op, api.Ans{Err: api.ErrArg, Data: []byte{0}}) {
			t.Errorf("kind %d: beside an error", kind)
		}
	}
	if !slices.Equal(j.Blocks(), row(2, -14)) || j.Root() != 8 || j.Worn() || !j.See(read(8, 1), told(0)) {
		t.Error(j.Blocks(), j.Root(), j.Worn())
	}
}

// P25.1: a judge is there just where a model is.
func TestNew(t *testing.T) {
	for words := -70; words < 600; words++ {
		j := judge.New(words)
		if may := words >= leastWords && words <= mostWords && words%8 == 0; (j != nil) != may {
			t.Errorf("%d words: %v", words, j)
		}
		if j != nil && (!slices.Equal(j.Blocks(), row(-words)) || j.Root() != 0 || j.Worn()) {
			t.Errorf("%d words: %v", words, j.Blocks())
		}
	}
	for _, words := range farNumbers() {
		if j := judge.New(words); (j != nil) != (words >= leastWords && words <= mostWords && words%8 == 0) {
			t.Errorf("%d words: %v", words, j)
		}
	}
}

// P25.1, R1, R3: numbers far away are numbers of nothing.
func TestFarNumbers(t *testing.T) {
	j := judge.New(16)
	j.See(alloc(8), at(8))
	for _, n := range farNumbers() {
		if n >= 0 && n <= mostBytes {
			continue
		}
		for _, op := range []api.Op{alloc(n), free(n), read(n, 1), read(n, 0), read(8, n), write(n, 1), write(n), root(n)} {
			if !j.See(op, errno(api.ErrArg)) || j.See(op, done) || j.See(op, errno(api.ErrWorn)) || j.See(op, at(n)) {
				t.Errorf("%d of %d", op.Kind, n)
			}
		}
		for _, op := range []api.Op{alloc(8), free(8), read(8, 0), write(8, 1), write(8), root(0), get} {
			if j.See(op, at(n)) || j.See(op, errno(api.Errno(n))) {
				t.Errorf("%d tells %d", op.Kind, n)
			}
		}
	}
	if !slices.Equal(j.Blocks(), row(2, -14)) || j.Root() != 0 || j.Worn() {
		t.Error(j.Blocks(), j.Root(), j.Worn())
	}
}

// P25.2, R3: no judge, and one that New has not told.
func TestNobody(t *testing.T) {
	for i, j := range []*judge.Judge{nil, {}} {
		for kind := -1; kind < 10; kind++ {
			for err := api.Errno(-1); err < 9; err++ {
				if j.See(api.Op{Kind: kind}, errno(err)) || j.See(api.Op{Kind: kind, N: 8, Off: 8, Data: []byte{1}}, errno(err)) {
					t.Errorf("%d: kind %d, errno %d", i, kind, err)
				}
			}
		}
		if j.See(alloc(8), at(8)) || len(j.Blocks()) != 0 || j.Worn() || j.Root() != 0 {
			t.Error(i, j.Blocks(), j.Worn(), j.Root())
		}
	}
}

// R2: what is handed in is as it was, and is not kept; what is told is the caller's own.
func TestMemory(t *testing.T) {
	j := judge.New(16)
	j.See(alloc(8), at(8))
	in := []byte{1, 2, 3, 4, 5}
	if !j.See(write(8, in[:3]...), done) || string(in) != "\x01\x02\x03\x04\x05" {
		t.Error(in)
	}
	in[0], in[1] = 9, 9
	out := []byte{1, 2, 3, 0, 77}
	if !j.See(read(8, 4), told(out[:4]...)) || string(out) != "\x01\x02\x03\x00\x4d" {
		t.Error(out)
	}
	out[0] = 9
	if !j.See(read(8, 4), told(1, 2, 3, 0)) {
		t.Error("what was told was kept")
	}
	l := j.Blocks()
	l[0].Size, l[1].Used = 5, true
	if !slices.Equal(j.Blocks(), row(2, -14)) || j.See(alloc(8), at(48)) || !j.See(alloc(8), at(24)) {
		t.Error(l, j.Blocks())
	}
}

// R6: no judge has a say in what another one says.
func TestTwo(t *testing.T) {
	a, b := judge.New(16), judge.New(16)
	if !a.See(alloc(8), at(8)) || !b.See(alloc(16), at(8)) || !a.See(write(8, 1), done) || !b.See(read(8, 1), told(0)) {
		t.Error("taken")
	}
	if !b.See(root(8), done) || !a.See(get, at(0)) || !a.See(free(8), errno(api.ErrWorn)) || b.Worn() || !b.See(root(0), done) {
		t.Error("changed")
	}
	if !slices.Equal(a.Blocks(), row(2, -14)) || !slices.Equal(b.Blocks(), row(3, -13)) || !a.Worn() {
		t.Error(a.Blocks(), b.Blocks(), a.Worn())
	}
}
