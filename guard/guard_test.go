package guard_test

import (
	"math"
	"math/big"
	"slices"
	"testing"

	"darning/api"
	"darning/guard"
)

const deepest = 1000

var (
	add   = api.Instr{Kind: api.IAdd}
	div   = api.Instr{Kind: api.IDiv}
	index = api.Instr{Kind: api.IIndex}
	drop  = api.Instr{Kind: api.IDrop}
)

func push(n int) api.Instr {
	return api.Instr{Kind: api.IPush, N: n}
}

func pushes(l ...int) []api.Instr {
	var out []api.Instr
	for _, n := range l {
		out = append(out, push(n))
	}
	return out
}

// numbers are ordinary ones and those at the edges of an int.
func numbers() []int {
	return []int{math.MinInt, math.MinInt + 1, -1 << 32, -7, -3, -2, -1, 0, 1, 2, 3, 4, 5, 7, 1 << 32, math.MaxInt - 1, math.MaxInt}
}

// roomy are lists with some memory behind their length.
func roomy() [][]int {
	l := [][]int{nil, {}}
	for n := range 6 {
		long := []int{40, 41, 42, 43, 44, 45, 46, 47}
		l = append(l, long[:n])
	}
	return l
}

// whole tells the whole memory of a list, that behind its length too.
func whole(l []int) []int {
	return slices.Clone(l[:cap(l)])
}

// wrap brings a number without bounds to an int, modulo 2^64.
func wrap(x *big.Int) int {
	low := new(big.Int).And(x, new(big.Int).SetUint64(math.MaxUint64))
	return int(low.Uint64())
}

func quotient(a, b int) int {
	return wrap(new(big.Int).Quo(big.NewInt(int64(a)), big.NewInt(int64(b))))
}

func sum(a, b int) int {
	return wrap(new(big.Int).Add(big.NewInt(int64(a)), big.NewInt(int64(b))))
}

// P3.1: Index within the list, at its ends, beyond them, and where there is memory but no list any more.
func TestIndex(t *testing.T) {
	for _, l := range roomy() {
		for _, i := range append(numbers(), 6, 8, 9) {
			was := whole(l)
			x, ok := guard.Index(l, i)
			want := 0
			if i >= 0 && i < len(l) {
				want = 40 + i
			}
			if x != want || ok != (want != 0) {
				t.Errorf("%v of %v: %d, %v", i, l, x, ok)
			}
			if !slices.Equal(was, whole(l)) {
				t.Errorf("%v became %v", was, whole(l))
			}
		}
	}
}

// P3.1: Slice for all bounds, and that what it tells is the caller's own.
func TestSlice(t *testing.T) {
	for _, l := range roomy() {
		for _, i := range append(numbers(), 6, 8, 9) {
			for _, j := range append(numbers(), 6, 8, 9) {
				was := whole(l)
				s, ok := guard.Slice(l, i, j)
				want := i >= 0 && i <= j && j <= len(l)
				if ok != want || !ok && s != nil || ok && len(s) != j-i {
					t.Errorf("%d to %d of %v: %v, %v", i, j, l, s, ok)
					continue
				}
				for k := range s {
					if s[k] != 40+i+k {
						t.Errorf("%d to %d of %v: %v", i, j, l, s)
					}
				}
				for k := range s[:cap(s)] {
					s[:cap(s)][k] = -9
				}
				_ = append(s, -8)
				if !slices.Equal(was, whole(l)) {
					t.Errorf("%v became %v", was, whole(l))
				}
			}
		}
	}
}

// P3.1: none of a list that is nil or empty is a part of it.
func TestSliceOfNone(t *testing.T) {
	for _, l := range [][]int{nil, {}} {
		if s, ok := guard.Slice(l, 0, 0); len(s) != 0 || !ok {
			t.Error(s, ok)
		}
		if s, ok := guard.Slice(l, 0, 1); s != nil || ok {
			t.Error(s, ok)
		}
	}
}

// P3.1: Div goes towards 0, and round where the quotient is no int.
func TestDiv(t *testing.T) {
	for i, x := range []struct {
		a, b, want int
		ok         bool
	}{
		{7, 2, 3, true}, {-7, 2, -3, true}, {7, -2, -3, true}, {-7, -2, 3, true}, {1, 2, 0, true}, {-1, 2, 0, true}, {0, 5, 0, true},
		{math.MinInt, -1, math.MinInt, true}, {math.MinInt, 1, math.MinInt, true}, {math.MaxInt, -1, -math.MaxInt, true}, {math.MaxInt, math.MinInt, 0, true},
		{7, 0, 0, false}, {0, 0, 0, false}, {-1, 0, 0, false}, {math.MinInt, 0, 0, false},
	} {
		if got, ok := guard.Div(x.a, x.b); got != x.want || ok != x.ok {
			t.Errorf("row %d: %d, %v", i, got, ok)
		}
	}
	for _, a := range numbers() {
		for _, b := range numbers() {
			got, ok := guard.Div(a, b)
			if ok != (b != 0) || ok && got != quotient(a, b) || !ok && got != 0 {
				t.Errorf("%d by %d: %d, %v", a, b, got, ok)
			}
		}
	}
}

// P3.2: rows worked out by hand, the document's example first.
func TestRows(t *testing.T) {
	row := []int{10, 20, 30}
	for i, x := range []struct {
		l     []api.Instr
		stack []int
		n     int
		ok    bool
	}{
		{append(pushes(6, 0), div), []int{6, 0}, 2, false},
		{nil, nil, 0, true},
		{[]api.Instr{}, nil, 0, true},
		{pushes(1, 2, 3), []int{1, 2, 3}, 3, true},
		{append(pushes(1, 2, 3), add), []int{1, 5}, 4, true},
		{append(pushes(1, 7, 2), div), []int{1, 3}, 4, true},
		{append(pushes(1, 2, 7), div), []int{1, 0}, 4, true},
		{append(pushes(-7, 2), div), []int{-3}, 3, true},
		{append(pushes(0, 5), div), []int{0}, 3, true},
		{append(pushes(9, 2), index), []int{9, 30}, 3, true},
		{append(pushes(0), index, index), []int{10}, 2, false},
		{append(pushes(9, 8), drop), []int{9}, 3, true},
		{append(pushes(9), drop), nil, 2, true},
		{append(pushes(9), drop, push(4)), []int{4}, 3, true},
		{append(pushes(math.MaxInt, 1), add), []int{math.MinInt}, 3, true},
		{append(pushes(math.MinInt, math.MinInt), add), []int{0}, 3, true},
		{append(pushes(math.MinInt, -1), div), []int{math.MinInt}, 3, true},
		{[]api.Instr{add}, nil, 0, false},
		{[]api.Instr{div}, nil, 0, false},
		{[]api.Instr{index}, nil, 0, false},
		{[]api.Instr{drop}, nil, 0, false},
		{[]api.Instr{push(5), add, push(6)}, []int{5}, 1, false},
		{[]api.Instr{push(5), div, push(6)}, []int{5}, 1, false},
		{[]api.Instr{push(0), div, push(6)}, []int{0}, 1, false},
		{[]api.Instr{push(5), drop, drop, push(6)}, nil, 2, false},
		{[]api.Instr{push(4), push(3), index, push(6)}, []int{4, 3}, 2, false},
		{[]api.Instr{push(4), push(-1), index, push(6)}, []int{4, -1}, 2, false},
		{[]api.Instr{push(math.MaxInt), index}, []int{math.MaxInt}, 1, false},
		{[]api.Instr{push(math.MinInt), index}, []int{math.MinInt}, 1, false},
		{[]api.Instr{push(4), push(0), div, drop}, []int{4, 0}, 2, false},
		{[]api.Instr{push(0), push(0), div}, []int{0, 0}, 2, false},
	} {
		stack, n, ok := guard.Run(row, x.l)
		if !slices.Equal(stack, x.stack) || n != x.n || ok != x.ok {
			t.Errorf("row %d: %v, %d, %v", i, stack, n, ok)
		}
	}
}

// P3.2: a step of another kind is the last, whatever its N is.
func TestOtherKinds(t *testing.T) {
	for _, kind := range []int{0, 6, 7, -1, -5, 1 << 32, 1<<32 + 1, math.MinInt, math.MaxInt} {
		for _, n := range []int{0, 1, 7} {
			other := api.Instr{Kind: kind, N: n}
			if stack, at, ok := guard.Run(nil, []api.Instr{push(4), push(5), other, drop}); !slices.Equal(stack, []int{4, 5}) || at != 2 || ok {
				t.Errorf("kind %d: %v, %d, %v", kind, stack, at, ok)
			}
			if stack, at, ok := guard.Run(nil, []api.Instr{other}); len(stack) != 0 || at != 0 || ok {
				t.Errorf("kind %d: %v, %d, %v", kind, stack, at, ok)
			}
		}
	}
}

// P3.2: N is of a push alone.
func TestNIsOfAPush(t *testing.T) {
	for _, n := range numbers() {
		l := []api.Instr{push(9), push(8), push(2), {Kind: api.IIndex, N: n}, {Kind: api.IAdd, N: n}, {Kind: api.IDiv, N: n}, push(3), {Kind: api.IDrop, N: n}}
		if stack, at, ok := guard.Run([]int{1, 1, 1}, l); !slices.Equal(stack, []int{1}) || at != 8 || !ok {
			t.Errorf("N %d: %v, %d, %v", n, stack, at, ok)
		}
	}
}

// P3.2: the row's place is one of its length, whatever lies behind; of no row there is none.
func TestRowEndsAtItsLength(t *testing.T) {
	for _, row := range roomy() {
		for _, i := range append(numbers(), 6, 8, 9) {
			was := whole(row)
			stack, n, ok := guard.Run(row, append(pushes(77, i), index))
			want, end := []int{77, i}, 2
			if i >= 0 && i < len(row) {
				want, end = []int{77, 40 + i}, 3
			}
			if !slices.Equal(stack, want) || n != end || ok != (end == 3) {
				t.Errorf("%d of %v: %v, %d, %v", i, row, stack, n, ok)
			}
			if !slices.Equal(was, whole(row)) {
				t.Errorf("%v became %v", was, whole(row))
			}
		}
	}
}

// P3.2: all numbers with all, by numbers without bounds.
func TestAddAndDivOfEach(t *testing.T) {
	for _, a := range numbers() {
		for _, b := range numbers() {
			if stack, n, ok := guard.Run(nil, append(pushes(a, b), add)); !slices.Equal(stack, []int{sum(a, b)}) || n != 3 || !ok {
				t.Errorf("%d and %d: %v, %d, %v", a, b, stack, n, ok)
			}
			want, end := []int{a, b}, 2
			if b != 0 {
				want, end = []int{quotient(a, b)}, 3
			}
			if stack, n, ok := guard.Run(nil, append(pushes(a, b), div)); !slices.Equal(stack, want) || n != end || ok != (b != 0) {
				t.Errorf("%d by %d: %v, %d, %v", a, b, stack, n, ok)
			}
		}
	}
}

// full are pushes of 0 to 999.
func full() []api.Instr {
	var l []api.Instr
	for i := range deepest {
		l = append(l, push(i))
	}
	return l
}

// P3.2: the stack has 1000 and no more; on a full one all but a push can be done.
func TestFullStack(t *testing.T) {
	row := make([]int, deepest)
	for i, x := range []struct {
		more []api.Instr
		top  int
		size int
		n    int
		ok   bool
	}{
		{nil, 999, 1000, 1000, true},
		{pushes(5), 999, 1000, 1000, false},
		{pushes(5, 6), 999, 1000, 1000, false},
		{[]api.Instr{add}, 998 + 999, 999, 1001, true},
		{[]api.Instr{div}, 0, 999, 1001, true},
		{[]api.Instr{index}, 0, 1000, 1001, true},
		{[]api.Instr{drop}, 998, 999, 1001, true},
		{[]api.Instr{add, push(5)}, 5, 1000, 1002, true},
		{[]api.Instr{drop, push(5)}, 5, 1000, 1002, true},
		{[]api.Instr{drop, push(5), push(6)}, 5, 1000, 1002, false},
		{[]api.Instr{index, push(5)}, 0, 1000, 1001, false},
		{[]api.Instr{{}, drop}, 999, 1000, 1000, false},
	} {
		stack, n, ok := guard.Run(row, append(full(), x.more...))
		if len(stack) != x.size || stack[len(stack)-1] != x.top || n != x.n || ok != x.ok {
			t.Errorf("row %d: %d long, %d, %v", i, len(stack), n, ok)
		}
		for k := range 998 {
			if k < len(stack)-1 && stack[k] != k {
				t.Errorf("row %d: %d at %d", i, stack[k], k)
			}
		}
	}
}

// can tells whether a step can be done: asked first, not caught afterwards.
func can(stack, row []int, s api.Instr) bool {
	n := len(stack)
	switch s.Kind {
	case api.IPush:
		return n < deepest
	case api.IAdd:
		return n >= 2
	case api.IDiv:
		return n >= 2 && stack[n-1] != 0
	case api.IIndex:
		return n >= 1 && stack[n-1] >= 0 && stack[n-1] < len(row)
	case api.IDrop:
		return n >= 1
	}
	return false
}

// did tells a new stack, from one on which the step can be done.
func did(stack, row []int, s api.Instr) []int {
	n := len(stack)
	switch s.Kind {
	case api.IPush:
		return slices.Concat(stack, []int{s.N})
	case api.IAdd:
		return slices.Concat(stack[:n-2], []int{sum(stack[n-2], stack[n-1])})
	case api.IDiv:
		return slices.Concat(stack[:n-2], []int{quotient(stack[n-2], stack[n-1])})
	case api.IIndex:
		return slices.Concat(stack[:n-1], []int{row[stack[n-1]]})
	}
	return slices.Clone(stack[:n-1])
}

func byAsking(row []int, l []api.Instr) ([]int, int, bool) {
	var stack []int
	for i, s := range l {
		if !can(stack, row, s) {
			return stack, i, false
		}
		stack = did(stack, row, s)
	}
	return stack, len(l), true
}

// scripts are mixtures of steps, the same in each run: mostly pushes of small numbers, so that many get far.
func scripts() [][]api.Instr {
	var all [][]api.Instr
	seed := uint64(1)
	next := func(n int) int {
		seed = seed*6364136223846793005 + 1442695040888963407
		return int(seed >> 33 % uint64(n))
	}
	for turn := range 4000 {
		var l []api.Instr
		for range turn % 60 {
			s := api.Instr{Kind: max(1, next(9)-2), N: next(4)}
			if next(50) == 0 {
				s.N = numbers()[next(len(numbers()))]
			}
			l = append(l, s)
		}
		all = append(all, l)
	}
	return all
}

// P3.2: mixtures, against a machine that asks ahead of each step.
func TestScripts(t *testing.T) {
	row := []int{3, 1, 0, 2}
	through := 0
	for _, l := range scripts() {
		stack, n, ok := guard.Run(row, l)
		want, end, good := byAsking(row, l)
		if !slices.Equal(stack, want) || n != end || ok != good {
			t.Errorf("%v: %v, %d, %v, not %v, %d, %v", l, stack, n, ok, want, end, good)
		}
		if ok && len(l) > 8 {
			through++
		}
	}
	if through < 20 {
		t.Errorf("only %d scripts come through", through)
	}
}

// P3.3: what was done ahead of the step that fails stays done, and what is behind it is not looked at.
func TestWhatWasDoneStays(t *testing.T) {
	row := []int{3, 1, 0, 2}
	for _, l := range scripts() {
		stack, n, ok := guard.Run(row, l)
		ahead, m, good := guard.Run(row, l[:n])
		if !slices.Equal(stack, ahead) || m != n || !good {
			t.Errorf("%v: %v, %d, then %v, %d, %v", l, stack, n, ahead, m, good)
		}
		if ok {
			continue
		}
		other := append(slices.Clone(l[:n+1]), push(9), drop, api.Instr{Kind: 99})
		if again, m, good := guard.Run(row, other); !slices.Equal(stack, again) || m != n || good {
			t.Errorf("%v: %v, %d, then %v, %d, %v", l, stack, n, again, m, good)
		}
	}
}

// R2: what is handed in stays, and the steps behind the list's length aren't done.
func TestHandedInStays(t *testing.T) {
	row := []int{3, 1, 0, 2}
	for _, l := range scripts() {
		long := append(slices.Clone(l), push(1), add, api.Instr{Kind: 99})
		was := slices.Clone(long)
		stack, n, ok := guard.Run(row, long[:len(l)])
		want, end, good := guard.Run(row, l)
		if !slices.Equal(stack, want) || n != end || ok != good {
			t.Errorf("%v: %v, %d, %v", l, stack, n, ok)
		}
		if !slices.Equal(long, was) || !slices.Equal(row, []int{3, 1, 0, 2}) {
			t.Errorf("%v became %v, the row %v", was, long, row)
		}
	}
}

// R2, R6: a stack that is told is the caller's own, and asked again Run tells the same.
func TestStackIsNew(t *testing.T) {
	row := []int{3, 1, 0, 2}
	for _, l := range scripts() {
		stack, n, ok := guard.Run(row, l)
		was := slices.Clone(stack)
		again, m, good := guard.Run(row, l)
		for i := range again {
			again[i]++
		}
		if !slices.Equal(stack, was) || m != n || good != ok || !slices.Equal(row, []int{3, 1, 0, 2}) {
			t.Errorf("%v: %v became %v, the row %v", l, was, stack, row)
		}
		if third, _, _ := guard.Run(row, l); !slices.Equal(third, was) {
			t.Errorf("%v: %v, then %v", l, was, third)
		}
	}
}

// R3: a long list comes to its end.
func TestLongList(t *testing.T) {
	l := slices.Repeat([]api.Instr{push(2), push(1), add, drop}, 500000)
	if stack, n, ok := guard.Run(nil, l); len(stack) != 0 || n != len(l) || !ok {
		t.Error(stack, n, ok)
	}
	if stack, n, ok := guard.Run(nil, append(l, drop)); len(stack) != 0 || n != len(l) || ok {
		t.Error(stack, n, ok)
	}
}
