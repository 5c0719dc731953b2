package nvm_test

import (
	"math"
	"testing"

	"darning/api"
	"darning/nvm"
	"darning/torn"
)

const most = 200

var (
	low  = api.Line{1, 2, 3, 4, 5, 6, 7, 8}
	high = api.Line{11, 12, 13, 14, 15, 16, 17, 18}
)

// edges are numbers that no line and no register has, whatever memory it is.
func edges() []int {
	return []int{math.MinInt, math.MinInt + 1, -1 << 32, -most, -2, -1, most, most + 1, 1 << 32, math.MaxInt - 1, math.MaxInt}
}

// filled is a memory whose lines and registers all hold something of their own.
func filled(t *testing.T, lines int, limits []int) *nvm.Memory {
	t.Helper()
	m := nvm.New(lines, limits)
	for i := range lines {
		if err := m.Put(i, own(i)); err != api.OK && err != api.ErrWorn {
			t.Fatalf("line %d: %d", i, err)
		}
	}
	for i := range api.Regs {
		if err := m.Set(i, uint64(5000+i)); err != api.OK {
			t.Fatalf("register %d: %d", i, err)
		}
	}
	return m
}

func own(i int) api.Line {
	var l api.Line
	for k := range l {
		l[k] = uint64(1000*k + i + 1)
	}
	return l
}

// image is all that a memory holds.
type image struct {
	lines [most]api.Line
	wear  [most]int
	regs  [api.Regs]uint64
}

// read tells all of a memory that has power.
func read(t *testing.T, m *nvm.Memory) image {
	t.Helper()
	var x image
	for i := range m.Lines() {
		l, err := m.Get(i)
		if err != api.OK {
			t.Fatalf("line %d: %d", i, err)
		}
		x.lines[i], x.wear[i] = l, m.Wear(i)
	}
	for i := range api.Regs {
		v, err := m.Reg(i)
		if err != api.OK {
			t.Fatalf("register %d: %d", i, err)
		}
		x.regs[i] = v
	}
	return x
}

// P5.1: how many lines there may be; all is nought, nothing was written, the power is there.
func TestNew(t *testing.T) {
	for _, n := range []int{1, 2, 23, 97, most - 1, most} {
		m := nvm.New(n, nil)
		if m == nil || m.Lines() != n || m.Writes() != 0 || m.Down() {
			t.Fatalf("%d: %v lines, %d writes, down %v", n, m.Lines(), m.Writes(), m.Down())
		}
		if read(t, m) != (image{}) {
			t.Errorf("%d: not all is nought", n)
		}
		if m.Put(n-1, low) != api.OK || m.Put(n, low) != api.ErrArg {
			t.Errorf("%d: the last line", n)
		}
	}
	for _, n := range append(edges(), 0) {
		if n == most {
			continue
		}
		if m := nvm.New(n, []int{1, 2}); m != nil {
			t.Errorf("%d: %d lines", n, m.Lines())
		}
	}
}

// P5.1, P5.2: a line lasts as often as its limit says, and then holds what it was last given.
func TestLimits(t *testing.T) {
	limits := []int{0, 1, 2, 3, 7, 19, 20, 21, -1, -2, math.MinInt, math.MaxInt, 1 << 32, 0}
	m := nvm.New(len(limits)+2, limits)
	for turn := range 20 {
		for i := range m.Lines() {
			lasts := math.MaxInt
			if i < len(limits) && limits[i] >= 0 {
				lasts = limits[i]
			}
			want, wear := api.OK, turn+1
			if turn >= lasts {
				want, wear = api.ErrWorn, lasts
			}
			if err := m.Put(i, api.Line{uint64(turn + 1), 7: uint64(i)}); err != want || m.Wear(i) != wear {
				t.Errorf("line %d, turn %d: %d, wear %d", i, turn, err, m.Wear(i))
			}
			holds := api.Line{}
			if wear > 0 {
				holds = api.Line{uint64(wear), 7: uint64(i)}
			}
			if l, err := m.Get(i); l != holds || err != api.OK {
				t.Errorf("line %d, turn %d: %v, %d", i, turn, l, err)
			}
		}
	}
	if m.Writes() != 20*m.Lines() {
		t.Error(m.Writes())
	}
}

// P5.1: limits of lines that there are not don't count.
func TestMoreLimitsThanLines(t *testing.T) {
	for _, n := range []int{1, 3, most} {
		m := nvm.New(n, make([]int, 3*most))
		if m.Lines() != n || m.Put(n-1, low) != api.ErrWorn || m.Put(n, low) != api.ErrArg || m.Wear(n) != 0 {
			t.Errorf("%d lines", n)
		}
	}
}

// R2: limits are neither changed nor kept, and not read behind their length.
func TestLimitsStay(t *testing.T) {
	limits := []int{1, 2, 0, 0}
	m := nvm.New(4, limits[:2])
	limits[0], limits[1] = 0, 9
	for turn, want := range [][4]api.Errno{{}, {0: api.ErrWorn}, {0: api.ErrWorn, 1: api.ErrWorn}} {
		for i := range 4 {
			if err := m.Put(i, low); err != want[i] {
				t.Errorf("turn %d, line %d: %d", turn, i, err)
			}
		}
	}
	if [4]int(limits) != [4]int{0, 9} {
		t.Error(limits)
	}
}

// P5.1, P5.2: what there is none of is ErrArg, with power and without; nothing is counted, and no Cut comes nearer.
func TestNoSuch(t *testing.T) {
	for _, lines := range []int{1, 5, most} {
		m := filled(t, lines, nil)
		was, writes := read(t, m), m.Writes()
		m.Cut(1, 0)
		refused := func(when string) {
			for _, i := range append(edges(), lines) {
				l, err := m.Get(i)
				if l != (api.Line{}) || err != api.ErrArg || m.Put(i, low) != api.ErrArg || m.Wear(i) != 0 {
					t.Errorf("%s: line %d of %d: %v, %d", when, i, lines, l, err)
				}
			}
			for _, i := range append(edges(), api.Regs, api.Regs+1) {
				v, err := m.Reg(i)
				if v != 0 || err != api.ErrArg || m.Set(i, 9) != api.ErrArg {
					t.Errorf("%s: register %d: %d, %d", when, i, v, err)
				}
			}
		}
		refused("with power")
		if m.Writes() != writes || m.Down() || read(t, m) != was {
			t.Errorf("%d lines: something was done", lines)
		}
		if a, b := m.Set(2, 5002), m.Set(2, 1); a != api.OK || b != api.ErrDown {
			t.Errorf("%d lines: %d, %d", lines, a, b)
		}
		refused("without power")
		m.Power()
		if m.Writes() != writes+2 || read(t, m) != was {
			t.Errorf("%d lines: something was done without power", lines)
		}
	}
}

// P5.2, P5.4: a Put changes its line alone, a Set its register alone, each as often as it is done.
func TestEachStandsAlone(t *testing.T) {
	m := filled(t, most, nil)
	want := read(t, m)
	for i := range most {
		if want.lines[i] != own(i) || want.wear[i] != 1 {
			t.Fatalf("line %d: %v, wear %d", i, want.lines[i], want.wear[i])
		}
	}
	for turn := range 3 {
		for i := range most {
			l := own(10000*(turn+1) + i)
			if err := m.Put(i, l); err != api.OK {
				t.Fatalf("line %d: %d", i, err)
			}
			want.lines[i] = l
			want.wear[i]++
			if read(t, m) != want {
				t.Fatalf("line %d changed more than itself", i)
			}
		}
		for i := range api.Regs {
			v := math.MaxUint64 - uint64(100*turn+i)
			if want.regs[i] == v {
				t.Fatalf("register %d holds it already", i)
			}
			if err := m.Set(i, v); err != api.OK {
				t.Fatalf("register %d: %d", i, err)
			}
			want.regs[i] = v
			if read(t, m) != want {
				t.Fatalf("register %d changed more than itself", i)
			}
		}
	}
	if m.Writes() != 4*(most+api.Regs) {
		t.Error(m.Writes())
	}
}

// P5.2: what is written again as it was is a write all the same.
func TestTheSameAgain(t *testing.T) {
	m := nvm.New(1, []int{2})
	for turn, want := range []api.Errno{api.OK, api.OK, api.ErrWorn} {
		if err := m.Put(0, low); err != want || m.Wear(0) != min(turn+1, 2) || m.Writes() != turn+1 {
			t.Errorf("turn %d: %d, wear %d, %d writes", turn, err, m.Wear(0), m.Writes())
		}
	}
	if m.Set(0, 0) != api.OK || m.Set(0, 0) != api.OK || m.Writes() != 5 {
		t.Error(m.Writes())
	}
}

// masks are all that count, and some with bits that don't.
func masks() []int {
	l := []int{-1, -2, 256, 257, 1 << 32, 1<<32 + 1, math.MinInt, math.MinInt + 1, math.MaxInt, math.MaxInt - 1}
	for mask := range 256 {
		l = append(l, mask, mask-512)
	}
	return l
}

// P5.2, P5.4: a Put at which the power goes is done by the mask's words, and is a write.
func TestCutAtPut(t *testing.T) {
	for _, mask := range masks() {
		m := filled(t, 3, []int{-1, 2})
		want, writes := read(t, m), m.Writes()
		m.Cut(0, mask)
		if m.Down() {
			t.Fatalf("%d: down ahead of the write", mask)
		}
		if err := m.Put(1, high); err != api.ErrDown || !m.Down() || m.Writes() != writes+1 || m.Wear(1) != 2 {
			t.Errorf("%d: %d, down %v, %d writes, wear %d", mask, err, m.Down(), m.Writes()-writes, m.Wear(1))
		}
		m.Power()
		for i := range want.lines[1] {
			if mask>>i&1 == 1 {
				want.lines[1][i] = high[i]
			}
		}
		want.wear[1] = 2
		if read(t, m) != want {
			l, _ := m.Get(1)
			t.Errorf("%d: %v", mask, l)
		}
		if m.Put(1, high) != api.ErrWorn || m.Put(0, high) != api.OK {
			t.Errorf("%d: behind it", mask)
		}
	}
}

// P5.2: a Set at which the power goes is done, or not at all, by the mask's bit 0 alone, and is a write.
func TestCutAtSet(t *testing.T) {
	for _, mask := range masks() {
		for _, v := range []uint64{0, 1, math.MaxUint64, 5003, 5004} {
			m := filled(t, 2, nil)
			want, writes := read(t, m), m.Writes()
			m.Cut(0, mask)
			if err := m.Set(3, v); err != api.ErrDown || !m.Down() || m.Writes() != writes+1 {
				t.Errorf("%d: %d, down %v, %d writes", mask, err, m.Down(), m.Writes()-writes)
			}
			m.Power()
			if mask%2 != 0 {
				want.regs[3] = v
			}
			if read(t, m) != want {
				got, _ := m.Reg(3)
				t.Errorf("%d: %d became %d, not %d", mask, 5003, got, want.regs[3])
			}
		}
	}
}

// P5.2: where the power goes at the Put of a worn line it stays as it is, and ErrDown is told; the write is counted.
func TestCutAtWornLine(t *testing.T) {
	for _, mask := range masks() {
		for lasts := range 3 {
			m := nvm.New(2, []int{lasts})
			for range lasts {
				m.Put(0, low)
			}
			want := read(t, m)
			m.Cut(0, mask)
			if err := m.Put(0, high); err != api.ErrDown || !m.Down() || m.Writes() != lasts+1 || m.Wear(0) != lasts {
				t.Errorf("%d: %d, down %v, %d writes, wear %d", mask, err, m.Down(), m.Writes(), m.Wear(0))
			}
			m.Power()
			if read(t, m) != want || m.Put(0, high) != api.ErrWorn || m.Writes() != lasts+2 {
				t.Errorf("%d: the worn line changed", mask)
			}
		}
	}
}

// P5.2: the last write that a line lasts for may be the one that the power goes at.
func TestCutAtLastWrite(t *testing.T) {
	m := nvm.New(1, []int{1})
	m.Cut(0, 0)
	if err := m.Put(0, low); err != api.ErrDown || m.Wear(0) != 1 {
		t.Error(err, m.Wear(0))
	}
	m.Power()
	if l, err := m.Get(0); l != (api.Line{}) || err != api.OK || m.Put(0, low) != api.ErrWorn || m.Wear(0) != 1 {
		t.Error(l, err, m.Wear(0))
	}
}

// P5.3: the power goes at the write behind the next n ones: of lines, worn ones too, and of registers.
func TestCutBehindN(t *testing.T) {
	do := func(m *nvm.Memory, k int) api.Errno {
		switch k % 3 {
		case 0:
			return m.Put(0, own(k))
		case 1:
			return m.Set(0, uint64(k))
		}
		return m.Put(1, own(k))
	}
	free := [3]api.Errno{api.OK, api.OK, api.ErrWorn}
	for n := range 40 {
		m := nvm.New(2, []int{-1, 0})
		m.Cut(n, 0)
		for k := range n {
			if err := do(m, k); err != free[k%3] || m.Down() || m.Writes() != k+1 {
				t.Errorf("%d: write %d: %d, down %v, %d writes", n, k, err, m.Down(), m.Writes())
			}
		}
		for k := n; k < n+5; k++ {
			if err := do(m, k); err != api.ErrDown || !m.Down() || m.Writes() != n+1 {
				t.Errorf("%d: write %d: %d, down %v, %d writes", n, k, err, m.Down(), m.Writes())
			}
		}
		m.Power()
		for k := range 5 {
			if err := do(m, k); err != free[k%3] || m.Down() || m.Writes() != n+2+k {
				t.Errorf("%d: write %d behind it: %d, down %v, %d writes", n, k, err, m.Down(), m.Writes())
			}
		}
	}
}

// P5.3: what is asked only is no write, so that no Cut comes nearer by it.
func TestAskingIsNoWrite(t *testing.T) {
	m := filled(t, 4, nil)
	writes := m.Writes()
	m.Cut(0, 255)
	was := read(t, m)
	if read(t, m) != was || m.Lines() != 4 || m.Down() || m.Writes() != writes {
		t.Error(m.Down(), m.Writes()-writes)
	}
	if m.Put(0, low) != api.ErrDown {
		t.Error("the power did not go")
	}
}

// P5.3: without power nothing is told or done; what was counted is told all the same.
func TestDown(t *testing.T) {
	m := filled(t, 3, []int{-1, 1, 0})
	want, writes := read(t, m), m.Writes()
	m.Cut(0, 0)
	m.Set(0, 1)
	for range 3 {
		for i := range 3 {
			if l, err := m.Get(i); l != (api.Line{}) || err != api.ErrDown || m.Put(i, high) != api.ErrDown || m.Wear(i) != want.wear[i] {
				t.Errorf("line %d: %v, %d, wear %d", i, l, err, m.Wear(i))
			}
		}
		for i := range api.Regs {
			if v, err := m.Reg(i); v != 0 || err != api.ErrDown || m.Set(i, 7) != api.ErrDown {
				t.Errorf("register %d: %d, %d", i, v, err)
			}
		}
		if !m.Down() || m.Writes() != writes+1 || m.Lines() != 3 {
			t.Error(m.Down(), m.Writes(), m.Lines())
		}
	}
	m.Power()
	if m.Down() || read(t, m) != want {
		t.Error("something was done without power")
	}
}

// P5.3: a later Cut replaces an earlier one, both its number and its mask; it counts from where it is said.
func TestLaterCut(t *testing.T) {
	for first := -1; first < 6; first++ {
		for second := range 6 {
			for between := range 3 {
				if first >= 0 && between > first {
					continue
				}
				m := nvm.New(1, nil)
				m.Cut(first, 0b1111_0000)
				for range between {
					m.Put(0, low)
				}
				m.Cut(second, 0b0000_1111)
				for k := range second {
					if err := m.Put(0, low); err != api.OK {
						t.Errorf("%d, %d, %d: write %d: %d", first, between, second, k, err)
					}
				}
				was, _ := m.Get(0)
				if err := m.Put(0, high); err != api.ErrDown {
					t.Errorf("%d, %d, %d: %d", first, between, second, err)
				}
				m.Power()
				if l, _ := m.Get(0); l != (api.Line{11, 12, 13, 14, was[4], was[5], was[6], was[7]}) {
					t.Errorf("%d, %d, %d: %v", first, between, second, l)
				}
			}
		}
	}
}

// P5.3: of n below 0 the power never goes, whatever was said before; of a great one it stays as long.
func TestCutNever(t *testing.T) {
	for _, n := range []int{-1, -2, math.MinInt, math.MaxInt, 1 << 32} {
		m := nvm.New(1, nil)
		m.Cut(0, 0)
		m.Cut(n, 0)
		for k := range 1000 {
			if m.Put(0, own(k)) != api.OK || m.Set(0, uint64(k)) != api.OK || m.Down() {
				t.Fatalf("%d: write %d", n, k)
			}
		}
	}
}

// P5.3: a Cut doesn't bring the power, and one that was said without power is over when it comes.
func TestCutWithoutPower(t *testing.T) {
	for _, n := range []int{-1, 0, 1, 2} {
		m := nvm.New(1, nil)
		m.Cut(0, 0)
		m.Set(0, 1)
		m.Cut(n, 255)
		if !m.Down() || m.Set(0, 2) != api.ErrDown || m.Put(0, low) != api.ErrDown || m.Writes() != 1 {
			t.Errorf("%d: down %v, %d writes", n, m.Down(), m.Writes())
		}
		m.Power()
		if v, err := m.Reg(0); v != 0 || err != api.OK {
			t.Errorf("%d: %d, %d", n, v, err)
		}
		for k := range 5 {
			if m.Set(0, uint64(k)) != api.OK || m.Down() {
				t.Errorf("%d: write %d", n, k)
			}
		}
	}
}

// P5.3: Power ends a Cut that did not come yet, and changes nothing else.
func TestPowerEndsCut(t *testing.T) {
	for n := range 4 {
		m := filled(t, 2, nil)
		was, writes := read(t, m), m.Writes()
		m.Cut(n, 0)
		m.Power()
		m.Power()
		if m.Down() || m.Writes() != writes || read(t, m) != was {
			t.Errorf("%d: something changed", n)
		}
		for k := range 6 {
			if m.Put(1, own(k)) != api.OK {
				t.Errorf("%d: write %d", n, k)
			}
		}
	}
}

// P5.4: whatever words a write leaves, each is one that was there or one that was put.
func TestNoWordIsAMixture(t *testing.T) {
	pairs := [][2]uint64{{0, math.MaxUint64}, {math.MaxUint64, 0}, {0x5555555555555555, 0xaaaaaaaaaaaaaaaa}, {1, 2}, {1 << 63, 1}}
	for _, p := range pairs {
		for mask := range 256 {
			m := nvm.New(1, nil)
			var old, now api.Line
			for i := range old {
				old[i], now[i] = p[0], p[1]
			}
			m.Put(0, old)
			m.Set(0, p[0])
			m.Cut(0, mask)
			m.Put(0, now)
			m.Power()
			m.Cut(0, mask)
			m.Set(0, p[1])
			m.Power()
			if l, _ := m.Get(0); !torn.Could(old, now, l) || l != torn.Mix(old, now, mask) {
				t.Errorf("%d: %v", mask, l)
			}
			if v, _ := m.Reg(0); v != p[mask%2] {
				t.Errorf("%d: %d", mask, v)
			}
		}
	}
}

// P5.1: two memories have nothing in common, nor have a memory and its copy; a line that was told is the caller's own.
func TestMemoriesAreApart(t *testing.T) {
	a, b := filled(t, 3, []int{2}), filled(t, 3, []int{2})
	was := read(t, b)
	c := *b
	a.Put(0, high)
	a.Set(0, 9)
	a.Cut(0, 0)
	a.Put(1, high)
	if !a.Down() || b.Down() || read(t, b) != was {
		t.Error("one memory changed the other")
	}
	c.Put(0, high)
	c.Set(0, 9)
	if read(t, b) != was || c.Wear(0) != 2 || c.Writes() != b.Writes()+2 {
		t.Error("the copy changed the memory")
	}
	l, _ := b.Get(0)
	l[0]++
	if read(t, b) != was {
		t.Error("the line that was told is the memory's")
	}
}

// R3: a nil memory tells zero values, and ErrArg, also where nothing is asked for that could be.
func TestNil(t *testing.T) {
	var m *nvm.Memory
	for _, i := range append(edges(), 0, 1, api.Regs) {
		l, err := m.Get(i)
		v, e := m.Reg(i)
		if l != (api.Line{}) || err != api.ErrArg || v != 0 || e != api.ErrArg {
			t.Errorf("%d: %v, %d, %d, %d", i, l, err, v, e)
		}
		if m.Put(i, low) != api.ErrArg || m.Set(i, 1) != api.ErrArg || m.Wear(i) != 0 {
			t.Errorf("%d: no ErrArg", i)
		}
		m.Cut(i, i)
		m.Power()
	}
	if m.Lines() != 0 || m.Writes() != 0 || m.Down() {
		t.Error(m.Lines(), m.Writes(), m.Down())
	}
}
