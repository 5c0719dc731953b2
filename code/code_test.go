package code_test

import (
	"bytes"
	"math"
	"slices"
	"testing"

	"darning/api"
	"darning/code"
)

// These are the document's numbers, written anew.
const (
	mostWide   = 65535
	mostNarrow = 255
)

// script tells numbers that are the same in each run.
type script uint64

func (s *script) next(n int) int {
	*s = *s*6364136223846793005 + 1442695040888963407
	return int(uint64(*s) >> 33 % uint64(n))
}

func (s *script) bytes(n int) []byte {
	b := make([]byte, n)
	for i := range b {
		b[i] = byte(s.next(256))
	}
	return b
}

// op tells some operation that may be.
func (s *script) op() api.Op {
	v := []int{0, 1, 8, 255, 256, 511, mostWide - 1, mostWide, s.next(mostWide + 1)}[s.next(9)]
	z := []int{0, 1, 4, mostNarrow - 1, mostNarrow, s.next(mostNarrow + 1)}[s.next(6)]
	switch kind := 1 + s.next(8); kind {
	case api.OAlloc:
		return api.Op{Kind: kind, N: v}
	case api.OFree, api.ORoot:
		return api.Op{Kind: kind, Off: v}
	case api.ORead:
		return api.Op{Kind: kind, Off: v, N: z}
	case api.OWrite:
		return api.Op{Kind: kind, Off: v, Data: s.bytes(z)}
	case api.OCut:
		return api.Op{Kind: kind, N: v, Mask: z}
	default:
		return api.Op{Kind: kind}
	}
}

// farNumbers are at the edges of an int, and those of which a smaller kind of number keeps one that may be.
func farNumbers() []int {
	all := []int{math.MinInt, math.MinInt + 1, math.MinInt + 8, math.MaxInt - 8, math.MaxInt - 1, math.MaxInt}
	for _, bit := range []int{8, 16, 24, 31, 32, 33, 48, 62} {
		for _, d := range []int{-1, 0, 1, 8} {
			all = append(all, 1<<bit+d, -(1<<bit)+d)
		}
	}
	return all
}

func same(a, b api.Op) bool {
	return a.Kind == b.Kind && a.Off == b.Off && a.N == b.N && a.Mask == b.Mask && bytes.Equal(a.Data, b.Data)
}

func sameAll(a, b []api.Op) bool {
	return slices.EqualFunc(a, b, same)
}

// copied tells the same operations in memory of their own.
func copied(l []api.Op) []api.Op {
	l = slices.Clone(l)
	for i := range l {
		l[i].Data = bytes.Clone(l[i].Data)
	}
	return l
}

// read decodes place by place, as the chapter's sentence goes, kind by kind.
func read(b []byte) []api.Op {
	var l []api.Op
	at := 0
	for at <= len(b)-4 {
		k, z := b[at], int(b[at+3])
		v := int(b[at+1]) + 256*int(b[at+2])
		at += 4
		switch k {
		case 1:
			l = append(l, api.Op{Kind: api.OAlloc, N: v})
		case 2:
			l = append(l, api.Op{Kind: api.OFree, Off: v})
		case 3:
			l = append(l, api.Op{Kind: api.ORead, Off: v, N: z})
		case 4:
			op := api.Op{Kind: api.OWrite, Off: v}
			for ; z > 0 && at < len(b); z-- {
				op.Data = append(op.Data, b[at])
				at++
			}
			l = append(l, op)
		case 5:
			l = append(l, api.Op{Kind: api.ORoot, Off: v})
		case 6:
			l = append(l, api.Op{Kind: api.OGet})
		case 7:
			l = append(l, api.Op{Kind: api.OCut, N: v, Mask: z})
		case 8:
			l = append(l, api.Op{Kind: api.OStart})
		}
	}
	return l
}

// P23.1: bytes written out, the document's example among them.
func TestDecodeByHand(t *testing.T) {
	for i, x := range []struct {
		b    []byte
		want []api.Op
	}{
		{nil, nil},
		{[]byte{}, nil},
		{[]byte{8}, nil},
		{[]byte{6, 0, 0}, nil},
		{[]byte{1, 8, 0, 0}, []api.Op{{Kind: 1, N: 8}}},
		{[]byte{1, 0, 0, 0}, []api.Op{{Kind: 1}}},
		{[]byte{1, 0, 1, 9}, []api.Op{{Kind: 1, N: 256}}},
		{[]byte{1, 255, 255, 255}, []api.Op{{Kind: 1, N: 65535}}},
		{[]byte{2, 8, 2, 9}, []api.Op{{Kind: 2, Off: 520}}},
		{[]byte{3, 8, 2, 9}, []api.Op{{Kind: 3, Off: 520, N: 9}}},
		{[]byte{3, 255, 0, 255}, []api.Op{{Kind: 3, Off: 255, N: 255}}},
		{[]byte{4, 8, 2, 0}, []api.Op{{Kind: 4, Off: 520}}},
		{[]byte{4, 8, 2, 3, 1, 0, 2}, []api.Op{{Kind: 4, Off: 520, Data: []byte{1, 0, 2}}}},
		{[]byte{4, 8, 2, 3, 1, 0}, []api.Op{{Kind: 4, Off: 520, Data: []byte{1, 0}}}},
		{[]byte{4, 8, 2, 3}, []api.Op{{Kind: 4, Off: 520}}},
		{[]byte{4, 8, 2, 0, 8, 0, 0, 0}, []api.Op{{Kind: 4, Off: 520}, {Kind: 8}}},
		{[]byte{4, 8, 2, 4, 8, 0, 0, 0, 6, 0, 0, 0}, []api.Op{{Kind: 4, Off: 520, Data: []byte{8, 0, 0, 0}}, {Kind: 6}}},
		{[]byte{4, 8, 2, 1, 7, 7, 3, 1, 200, 6, 6, 6}, []api.Op{{Kind: 4, Off: 520, Data: []byte{7}}, {Kind: 7, N: 259, Mask: 200}}},
		{[]byte{5, 8, 2, 9}, []api.Op{{Kind: 5, Off: 520}}},
		{[]byte{6, 8, 2, 9}, []api.Op{{Kind: 6}}},
		{[]byte{7, 8, 2, 9}, []api.Op{{Kind: 7, N: 520, Mask: 9}}},
		{[]byte{8, 8, 2, 9}, []api.Op{{Kind: 8}}},
		{[]byte{0, 8, 2, 9}, nil},
		{[]byte{9, 8, 2, 9}, nil},
		{[]byte{255, 8, 2, 9}, nil},
		{[]byte{9, 1, 8, 4, 1, 8, 4, 9}, []api.Op{{Kind: 1, N: 1032}}},
		{[]byte{8, 0, 0, 0, 0, 0, 0, 0, 129, 1, 1, 1, 6, 0, 0, 0, 2, 2, 2}, []api.Op{{Kind: 8}, {Kind: 6}}},
	} {
		if got := code.Decode(x.b); !sameAll(got, x.want) {
			t.Errorf("row %d: %v", i, got)
		}
	}
}

// P23.1: each first byte, each wide number, each narrow one.
func TestDecodeEachByte(t *testing.T) {
	check := func(b ...byte) {
		if got, want := code.Decode(b), read(b); !sameAll(got, want) {
			t.Fatalf("%v: %v, not %v", b, got, want)
		}
	}
	for k := range 256 {
		for z := range 256 {
			check(byte(k), 3, 5, byte(z))
			check(byte(k), 3, 5, byte(z), 1, 2, 3, 4, 8, 0, 0, 0)
		}
	}
	for k := range 10 {
		for v := range mostWide + 1 {
			check(byte(k), byte(v), byte(v>>8), 2)
		}
	}
}

// P23.1: a write's bytes: so many as it says, or as many as are left; what is behind them is the next operation.
func TestDecodeData(t *testing.T) {
	s := script(1)
	for z := range 256 {
		for _, left := range []int{0, 1, 3, 4, z - 1, z, z + 1, z + 3, z + 4, z + 9, 255, 256, 300} {
			if left < 0 {
				continue
			}
			data := s.bytes(left)
			got := code.Decode(append([]byte{4, 8, 0, byte(z)}, data...))
			if len(got) == 0 || !same(got[0], api.Op{Kind: 4, Off: 8, Data: data[:min(z, left)]}) {
				t.Fatalf("%d of %d: %v", z, left, got)
			}
			if rest := read(data[min(z, left):]); !sameAll(got[1:], rest) {
				t.Fatalf("%d of %d: behind it %v, not %v", z, left, got[1:], rest)
			}
		}
	}
}

// P23.1: scripts of any bytes, cut off anywhere.
func TestDecodeAny(t *testing.T) {
	s := script(2)
	for range 3000 {
		b := s.bytes(s.next(200))
		for i := range b {
			if s.next(3) > 0 {
				b[i] %= 10
			}
		}
		if got, want := code.Decode(b), read(b); !sameAll(got, want) {
			t.Fatalf("%v: %v, not %v", b, got, want)
		}
	}
}

// P23.2: the bytes of each kind of operation, written out.
func TestEncodeByHand(t *testing.T) {
	for i, x := range []struct {
		l    []api.Op
		want []byte
	}{
		{nil, nil},
		{[]api.Op{}, nil},
		{[]api.Op{{Kind: 1, N: 8}}, []byte{1, 8, 0, 0}},
		{[]api.Op{{Kind: 1}}, []byte{1, 0, 0, 0}},
		{[]api.Op{{Kind: 1, N: 65535}}, []byte{1, 255, 255, 0}},
		{[]api.Op{{Kind: 2, Off: 520}}, []byte{2, 8, 2, 0}},
		{[]api.Op{{Kind: 3, Off: 520, N: 255}}, []byte{3, 8, 2, 255}},
		{[]api.Op{{Kind: 4, Off: 520}}, []byte{4, 8, 2, 0}},
		{[]api.Op{{Kind: 4, Off: 520, Data: []byte{}}}, []byte{4, 8, 2, 0}},
		{[]api.Op{{Kind: 4, Off: 520, Data: []byte{9, 0, 8}}}, []byte{4, 8, 2, 3, 9, 0, 8}},
		{[]api.Op{{Kind: 5, Off: 256}}, []byte{5, 0, 1, 0}},
		{[]api.Op{{Kind: 6}}, []byte{6, 0, 0, 0}},
		{[]api.Op{{Kind: 6, Data: []byte{}}}, []byte{6, 0, 0, 0}},
		{[]api.Op{{Kind: 7, N: 259, Mask: 200}}, []byte{7, 3, 1, 200}},
		{[]api.Op{{Kind: 8}}, []byte{8, 0, 0, 0}},
		{[]api.Op{{Kind: 8}, {Kind: 4, Data: []byte{5}}, {Kind: 6}}, []byte{8, 0, 0, 0, 4, 0, 0, 1, 5, 6, 0, 0, 0}},
	} {
		if got, ok := code.Encode(x.l); !ok || !bytes.Equal(got, x.want) {
			t.Errorf("row %d: %v, %v", i, got, ok)
		}
	}
}

// P23.2: each field of each kind: what its bytes say, or 0, and nothing else.
func TestMayEachField(t *testing.T) {
	numbers := append(farNumbers(), -65536, -65535, -256, -255, -8, -2, -1, 0, 1, 2, 8, 254, 255, 256, 257, 65534, 65535, 65536, 65537)
	for kind, m := range []struct{ off, n, mask int }{
		1: {n: mostWide},
		2: {off: mostWide},
		3: {off: mostWide, n: mostNarrow},
		4: {off: mostWide},
		5: {off: mostWide},
		6: {},
		7: {n: mostWide, mask: mostNarrow},
		8: {},
		9: {},
	} {
		isKind := kind >= 1 && kind <= 8
		for _, x := range numbers {
			for i, f := range []struct {
				op   api.Op
				most int
			}{{api.Op{Kind: kind, Off: x}, m.off}, {api.Op{Kind: kind, N: x}, m.n}, {api.Op{Kind: kind, Mask: x}, m.mask}} {
				if got, want := code.May(f.op), isKind && x >= 0 && x <= f.most; got != want {
					t.Errorf("kind %d, field %d of %d: %v", kind, i, x, got)
				}
			}
		}
		// All its fields at their most, and each of them one beyond.
		full := api.Op{Kind: kind, Off: m.off, N: m.n, Mask: m.mask}
		if code.May(full) != isKind {
			t.Errorf("kind %d at its most: %v", kind, !isKind)
		}
		for i, d := range []api.Op{{Off: 1}, {N: 1}, {Mask: 1}} {
			beyond := api.Op{Kind: kind, Off: m.off + d.Off, N: m.n + d.N, Mask: m.mask + d.Mask}
			if code.May(beyond) {
				t.Errorf("kind %d, field %d beyond: it may", kind, i)
			}
		}
	}
}

// P23.2: a write has 0 to 255 bytes, all else has none.
func TestMayData(t *testing.T) {
	for n := range 1100 {
		for kind := range 10 {
			want := kind == api.OWrite && n <= mostNarrow || kind >= 1 && kind <= 8 && n == 0
			if got := code.May(api.Op{Kind: kind, Data: make([]byte, n)}); got != want {
				t.Fatalf("kind %d, %d bytes: %v", kind, n, got)
			}
		}
	}
	if code.May(api.Op{Kind: api.OWrite, Data: make([]byte, 65536)}) {
		t.Error("65536 bytes")
	}
}

// P23.2: kinds are 1 to 8, none of the numbers of which some bits alone say so.
func TestMayKind(t *testing.T) {
	for kind := -300; kind <= 600; kind++ {
		if got, want := code.May(api.Op{Kind: kind}), kind >= 1 && kind <= 8; got != want {
			t.Errorf("kind %d: %v", kind, got)
		}
	}
	for _, kind := range farNumbers() {
		if code.May(api.Op{Kind: kind}) {
			t.Errorf("kind %d: it may", kind)
		}
	}
}

// P23.2: an operation may be just where some bytes say it: all that a look at its fields could give are tried.
func TestMayIfBytesSayIt(t *testing.T) {
	s := script(3)
	yes, no := 0, 0
	for range 20000 {
		op := s.op()
		for range s.next(3) {
			x := []int{-1, 0, 1, 7, 255, 256, 65535, 65536}[s.next(8)]
			switch s.next(5) {
			case 0:
				op.Kind = x
			case 1:
				op.Off = x
			case 2:
				op.N = x
			case 3:
				op.Mask = x
			case 4:
				op.Data = s.bytes(max(0, min(x, 300)))
			}
		}
		said := false
		for _, v := range []int{op.Off, op.N} {
			for _, z := range []int{op.N, op.Mask, len(op.Data)} {
				b := append([]byte{byte(op.Kind), byte(v), byte(v >> 8), byte(z)}, op.Data...)
				said = said || sameAll(read(b), []api.Op{op})
			}
		}
		if code.May(op) != said {
			t.Fatalf("%v: %v", op, !said)
		}
		if said {
			yes++
		} else {
			no++
		}
	}
	if yes < 1000 || no < 1000 {
		t.Errorf("%d may, %d may not", yes, no)
	}
}

// P23.2, R7: one that may not be, wherever it stands: nothing, and no.
func TestEncodeNo(t *testing.T) {
	s := script(4)
	for _, bad := range []api.Op{
		{},
		{Kind: 9},
		{Kind: 257},
		{Kind: 1, N: 65536},
		{Kind: 1, N: -1},
		{Kind: 2, Off: math.MinInt},
		{Kind: 3, N: 256},
		{Kind: 4, Data: make([]byte, 256)},
		{Kind: 4, N: 1},
		{Kind: 6, Data: []byte{1}},
		{Kind: 7, Mask: 256},
		{Kind: 8, Off: 1},
	} {
		for n := range 5 {
			for at := range n + 1 {
				var l []api.Op
				for range n {
					l = append(l, s.op())
				}
				l = slices.Insert(l, at, bad)
				if b, ok := code.Encode(l); len(b) != 0 || ok {
					t.Fatalf("%v at %d of %d: %v, %v", bad, at, n, b, ok)
				}
			}
		}
	}
}

// P23.3: what is encoded is decoded as it was, the lists also one behind the other.
func TestDecodedAsItWas(t *testing.T) {
	s := script(5)
	for range 2000 {
		var l []api.Op
		size := 0
		for range s.next(20) {
			op := s.op()
			size += 4 + len(op.Data)
			l = append(l, op)
		}
		b, ok := code.Encode(l)
		if !ok || len(b) != size {
			t.Fatalf("%v: %d bytes, %v", l, len(b), ok)
		}
		if back := code.Decode(b); !sameAll(back, l) {
			t.Fatalf("%v: back %v", l, back)
		}
		cut := s.next(len(l) + 1)
		ahead, _ := code.Encode(l[:cut])
		behind, _ := code.Encode(l[cut:])
		if !bytes.Equal(slices.Concat(ahead, behind), b) {
			t.Fatalf("%v: in two parts it is other bytes", l)
		}
	}
}

// P23.3: each wide and each narrow number of each kind.
func TestDecodedAsItWasEachNumber(t *testing.T) {
	var l []api.Op
	for v := range mostWide + 1 {
		l = append(l, api.Op{Kind: 1, N: v}, api.Op{Kind: 2, Off: v}, api.Op{Kind: 3, Off: v, N: v & 255}, api.Op{Kind: 4, Off: v, Data: make([]byte, v%3)}, api.Op{Kind: 5, Off: v}, api.Op{Kind: 7, N: v, Mask: v >> 8})
	}
	for z := range mostNarrow + 1 {
		l = append(l, api.Op{Kind: 3, Off: 1, N: z}, api.Op{Kind: 7, N: 1, Mask: z}, api.Op{Kind: 4, Off: 1, Data: make([]byte, z)})
	}
	b, ok := code.Encode(l)
	if !ok {
		t.Fatal("no")
	}
	if back := code.Decode(b); !sameAll(back, l) {
		t.Error("not as it was")
	}
}

// P23.1, P23.2: whatever bytes are decoded, each operation may be, and is decoded as it was.
func TestDecodedMayBe(t *testing.T) {
	s := script(6)
	for range 2000 {
		l := code.Decode(s.bytes(s.next(300)))
		for i := range l {
			if !code.May(l[i]) {
				t.Fatalf("%v may not be", l[i])
			}
		}
		b, ok := code.Encode(l)
		if back := code.Decode(b); !ok || !sameAll(back, l) {
			t.Fatalf("%v: back %v", l, back)
		}
	}
}

// R2: what is handed in stays as it is; what lies behind its length is neither read nor written.
func TestHandedInStays(t *testing.T) {
	b := []byte{4, 8, 0, 9, 5, 6, 7, 7, 7, 7, 7, 7, 7}
	kept := bytes.Clone(b)
	if got := code.Decode(b[:6]); !sameAll(got, []api.Op{{Kind: 4, Off: 8, Data: []byte{5, 6}}}) {
		t.Error(got)
	}
	if got := code.Decode([]byte{6, 0, 0, 0, 6, 0, 0, 0}[:7]); !sameAll(got, []api.Op{{Kind: 6}}) {
		t.Error(got)
	}
	if !bytes.Equal(b, kept) {
		t.Error("bytes changed")
	}

	long := bytes.Repeat([]byte{7}, 300)
	l := []api.Op{{Kind: 4, Off: 8, Data: long[:2]}, {Kind: 3, Off: 9, N: 4}, {Kind: 7, N: 5, Mask: 6}, {Kind: 9}}
	was := copied(l)
	if got, ok := code.Encode(l[:3]); !ok || !bytes.Equal(got, []byte{4, 8, 0, 2, 7, 7, 3, 9, 0, 4, 7, 5, 0, 6}) {
		t.Error(got, ok)
	}
	code.Encode(l)
	for _, op := range l {
		code.May(op)
	}
	if !sameAll(l, was) || !bytes.Equal(long, bytes.Repeat([]byte{7}, 300)) {
		t.Error("operations changed")
	}
}

// R2: what is told is the caller's own, and no two of its lists share memory.
func TestToldIsOwn(t *testing.T) {
	b := []byte{4, 8, 0, 2, 5, 6, 4, 9, 0, 2, 7, 8, 6, 0, 0, 0}
	kept := bytes.Clone(b)
	want := []api.Op{{Kind: 4, Off: 8, Data: []byte{5, 6}}, {Kind: 4, Off: 9, Data: []byte{7, 8}}, {Kind: 6}}
	one, two := code.Decode(b), code.Decode(b)
	for i := range one {
		for j := range one[i].Data {
			one[i].Data[j] = 99
		}
		// What is appended must go into nobody's bytes, were there room behind them.
		one[i].Data = append(one[i].Data, 98, 98, 98, 98, 98, 98)
		for j := range one {
			if j > i && !same(one[j], want[j]) {
				t.Errorf("%d changed %d: %v", i, j, one[j])
			}
		}
	}
	if !bytes.Equal(b, kept) || !sameAll(two, want) {
		t.Error("shared", b, two)
	}
	clear(b)
	if !sameAll(two, want) {
		t.Error("kept", two)
	}

	three, _ := code.Encode(two)
	four, _ := code.Encode(two)
	clear(three)
	if !bytes.Equal(four, kept) || !sameAll(two, want) {
		t.Error("encoded shares", four, two)
	}
	clear(two[0].Data)
	if !bytes.Equal(four, kept) {
		t.Error("encoded keeps", four)
	}
}

// R2, R3: nil and empty lists are one.
func TestNothing(t *testing.T) {
	if l := code.Decode(nil); len(l) != 0 {
		t.Error(l)
	}
	for _, l := range [][]api.Op{nil, {}} {
		if b, ok := code.Encode(l); len(b) != 0 || !ok {
			t.Error(b, ok)
		}
	}
	if !code.May(api.Op{Kind: 4}) || !code.May(api.Op{Kind: 4, Data: []byte{}}) {
		t.Error("a write of no bytes")
	}
}

// R3, R6: long scripts end, and tell the same again.
func TestLong(t *testing.T) {
	s := script(7)
	b := s.bytes(1 << 20)
	one := code.Decode(b)
	if want := read(b); !sameAll(one, want) {
		t.Error("not as it is read")
	}
	if !sameAll(one, code.Decode(b)) {
		t.Error("not the same again")
	}
	first, ok := code.Encode(one)
	again, _ := code.Encode(one)
	if !ok || !bytes.Equal(first, again) {
		t.Error("not the same bytes again")
	}
}
