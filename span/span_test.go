package span_test

import (
	"encoding/binary"
	"math"
	"slices"
	"testing"

	"darning/api"
	"darning/span"
)

// These are the document's numbers, written anew.
const (
	mostBytes = 448
	mostOff   = 1000000
)

// ladder are words of which each byte has a value of its own, as long as there are no more than 32 words.
func ladder(words int) []uint64 {
	b := make([]byte, 8*words)
	for i := range b {
		b[i] = byte(i + 1)
	}
	return words8(b)
}

// bytesOf lays words out as bytes, the lowest bits of each first.
func bytesOf(w []uint64) []byte {
	var b []byte
	for _, word := range w {
		b = binary.LittleEndian.AppendUint64(b, word)
	}
	return b
}

// words8 are the words that bytes are, eight each.
func words8(b []byte) []uint64 {
	var w []uint64
	for i := 0; i < len(b); i += 8 {
		w = append(w, binary.LittleEndian.Uint64(b[i:]))
	}
	return w
}

// odd are bytes that no ladder has side by side.
func odd(n int) []byte {
	b := make([]byte, n)
	for i := range b {
		b[i] = byte(200 - 3*i)
	}
	return b
}

// next is a number below n; it comes of a short rule.
func next(state *uint64, n int) int {
	*state = *state*6364136223846793005 + 1442695040888963407
	return int(*state >> 33 % uint64(n))
}

// farNumbers are at the edges, and those that a smaller kind of number would take for another one.
func farNumbers() []int {
	all := []int{math.MinInt, math.MinInt + 1, math.MinInt + 8, math.MinInt + 448, math.MaxInt - 448, math.MaxInt - 447, math.MaxInt - 8, math.MaxInt - 7, math.MaxInt - 1, math.MaxInt}
	for _, bit := range []int{8, 16, 31, 32, 33, 48, 59, 60, 61, 62} {
		for _, d := range []int{-448, -8, -1, 0, 1, 2, 3, 8, 16, 448} {
			all = append(all, 1<<bit+d, -(1<<bit)+d)
		}
	}
	return all
}

// pieces goes byte by byte; each is of the part that the one ahead is of, or begins one.
func pieces(off, n int) []api.Piece {
	if off < 0 || n < 0 || off > mostOff || n > mostBytes {
		return nil
	}
	var l []api.Piece
	for k := off; k < off+n; k++ {
		if k == off || k%8 == 0 {
			l = append(l, api.Piece{Word: k / 8, From: k % 8})
		}
		l[len(l)-1].Len++
	}
	return l
}

// there tells whether bytes are there, and may be asked for: by so many bytes as words have.
func there(words, off, n int) bool {
	if off < 0 || n < 0 || n > mostBytes || off > 8*words {
		return false
	}
	return off+n <= 8*words
}

// written lays bytes over those of words, and tells the words that have one of them.
func written(w []uint64, off int, b []byte) []api.Edit {
	all := bytesOf(w)
	copy(all[off:], b)
	var l []api.Edit
	for i, word := range words8(all) {
		if len(b) > 0 && 8*i+7 >= off && 8*i <= off+len(b)-1 {
			l = append(l, api.Edit{Word: i, Val: word})
		}
	}
	return l
}

// checkPieces holds the parts of words against those that a walk byte by byte tells.
func checkPieces(t *testing.T, off, n int) {
	t.Helper()
	if got, want := span.Pieces(off, n), pieces(off, n); !slices.Equal(got, want) {
		t.Errorf("%d bytes from %d: %v, not %v", n, off, got, want)
	}
}

// checkRead holds what is read against the words' bytes.
func checkRead(t *testing.T, w []uint64, off, n int) {
	t.Helper()
	var want []byte
	ok := there(len(w), off, n)
	if ok {
		want = bytesOf(w)[off : off+n]
	}
	if got, is := span.Read(w, off, n); is != ok || !slices.Equal(got, want) {
		t.Fatalf("%d words, %d bytes from %d: %v %v, not %v %v", len(w), n, off, got, is, want, ok)
	}
}

// checkEdits holds edits against the words over whose bytes those are laid, and does them.
func checkEdits(t *testing.T, w []uint64, off int, b []byte) {
	t.Helper()
	var want []api.Edit
	ok := there(len(w), off, len(b))
	if ok {
		want = written(w, off, b)
	}
	l, is := span.Edits(w, off, b)
	if is != ok || !slices.Equal(l, want) {
		t.Fatalf("%d words, %d bytes at %d: %v %v, not %v %v", len(w), len(b), off, l, is, want, ok)
	}
	if !ok {
		return
	}
	all := bytesOf(w)
	copy(all[off:], b)
	if after := span.Apply(w, l); !slices.Equal(bytesOf(after), all) {
		t.Fatalf("%d words, %d bytes at %d: edited they are %v", len(w), len(b), off, after)
	}
}

// P18.1: parts written out, the document's example first.
func TestPiecesByHand(t *testing.T) {
	for i, x := range []struct {
		off, n int
		want   []api.Piece
	}{
		{6, 4, []api.Piece{{Word: 0, From: 6, Len: 2}, {Word: 1, From: 0, Len: 2}}},
		{0, 1, []api.Piece{{Word: 0, From: 0, Len: 1}}},
		{0, 8, []api.Piece{{Word: 0, From: 0, Len: 8}}},
		{0, 9, []api.Piece{{Word: 0, From: 0, Len: 8}, {Word: 1, From: 0, Len: 1}}},
		{7, 1, []api.Piece{{Word: 0, From: 7, Len: 1}}},
		{7, 2, []api.Piece{{Word: 0, From: 7, Len: 1}, {Word: 1, From: 0, Len: 1}}},
		{7, 10, []api.Piece{{Word: 0, From: 7, Len: 1}, {Word: 1, From: 0, Len: 8}, {Word: 2, From: 0, Len: 1}}},
		{1, 7, []api.Piece{{Word: 0, From: 1, Len: 7}}},
		{3, 2, []api.Piece{{Word: 0, From: 3, Len: 2}}},
		{8, 8, []api.Piece{{Word: 1, From: 0, Len: 8}}},
		{15, 2, []api.Piece{{Word: 1, From: 7, Len: 1}, {Word: 2, From: 0, Len: 1}}},
		{16, 0, nil}, {0, 0, nil}, {5, 0, nil},
		{mostOff, 1, []api.Piece{{Word: 125000, From: 0, Len: 1}}},
		{mostOff, 9, []api.Piece{{Word: 125000, From: 0, Len: 8}, {Word: 125001, From: 0, Len: 1}}},
		{mostOff - 1, 2, []api.Piece{{Word: 124999, From: 7, Len: 1}, {Word: 125000, From: 0, Len: 1}}},
		{mostOff + 1, 1, nil}, {mostOff + 8, 8, nil}, {mostOff, 0, nil}, {mostOff, 449, nil},
		{0, 449, nil}, {0, 1000, nil}, {-1, 4, nil}, {-8, 8, nil}, {-8, 16, nil}, {4, -1, nil}, {0, -8, nil}, {-1, -1, nil},
	} {
		if got := span.Pieces(x.off, x.n); !slices.Equal(got, x.want) {
			t.Errorf("row %d: %v, not %v", i, got, x.want)
		}
	}
}

// P18.1: parts of as many bytes as there may be, from each byte of a word, and from the last ones there are.
func TestPieces(t *testing.T) {
	for n := -3; n <= mostBytes+10; n++ {
		for off := -9; off <= 40; off++ {
			checkPieces(t, off, n)
		}
		for off := mostOff - 17; off <= mostOff+9; off++ {
			checkPieces(t, off, n)
		}
	}
	if l := span.Pieces(1, mostBytes); len(l) != 57 || l[0].Len != 7 || l[56].Len != 1 {
		t.Error(l)
	}
}

// P18.1: the parts are side by side, none is empty, each is within a word, and together they are all bytes.
func TestPiecesTogether(t *testing.T) {
	for off := range 20 {
		for n := range mostBytes + 1 {
			at := off
			for _, p := range span.Pieces(off, n) {
				if p.Len < 1 || p.From < 0 || p.From+p.Len > 8 || p.Word*8+p.From != at {
					t.Fatal(off, n, p)
				}
				at += p.Len
			}
			if at != off+n {
				t.Fatal(off, n, at)
			}
		}
	}
}

// P18.1, R1, R3: numbers whose sum would go round.
func TestPiecesFarAway(t *testing.T) {
	for _, far := range farNumbers() {
		for _, n := range append(farNumbers(), -1, 0, 1, 8, mostBytes, mostOff) {
			checkPieces(t, far, n)
			checkPieces(t, n, far)
		}
	}
}

// P18.1: bytes written out: byte 0 of a word is its lowest bits.
func TestReadByHand(t *testing.T) {
	w := []uint64{0x0807060504030201, 0xfffefdfcfbfaf9f8, 0}
	for i, x := range []struct {
		off, n int
		want   []byte
		ok     bool
	}{
		{0, 3, []byte{1, 2, 3}, true}, {0, 8, []byte{1, 2, 3, 4, 5, 6, 7, 8}, true}, {7, 1, []byte{8}, true},
		{6, 4, []byte{7, 8, 0xf8, 0xf9}, true}, {15, 2, []byte{0xff, 0}, true}, {16, 8, []byte{0, 0, 0, 0, 0, 0, 0, 0}, true},
		{7, 10, []byte{8, 0xf8, 0xf9, 0xfa, 0xfb, 0xfc, 0xfd, 0xfe, 0xff, 0}, true},
		{23, 1, []byte{0}, true}, {0, 0, nil, true}, {24, 0, nil, true}, {25, 0, nil, false},
		{24, 1, nil, false}, {23, 2, nil, false}, {0, 25, nil, false}, {-1, 1, nil, false}, {-1, 0, nil, false}, {1, -1, nil, false}, {0, -1, nil, false}, {-8, 16, nil, false},
	} {
		if got, ok := span.Read(w, x.off, x.n); ok != x.ok || !slices.Equal(got, x.want) {
			t.Errorf("row %d: %v %v", i, got, ok)
		}
	}
}

// P18.1: all bytes of few words, and those around them.
func TestRead(t *testing.T) {
	for words := range 5 {
		w := ladder(words)
		for off := -10; off <= 8*words+10; off++ {
			for n := -10; n <= 8*words+10; n++ {
				checkRead(t, w, off, n)
			}
		}
	}
}

// P18.1: edits written out: a word's other bytes are as they were.
func TestEditsByHand(t *testing.T) {
	w := []uint64{0x1111111111111111, 0xffffffffffffffff, 0}
	for i, x := range []struct {
		off  int
		b    []byte
		want []api.Edit
		ok   bool
	}{
		{0, []byte{2}, []api.Edit{{Word: 0, Val: 0x1111111111111102}}, true},
		{7, []byte{0xfe}, []api.Edit{{Word: 0, Val: 0xfe11111111111111}}, true},
		{8, []byte{0}, []api.Edit{{Word: 1, Val: 0xffffffffffffff00}}, true},
		{15, []byte{0}, []api.Edit{{Word: 1, Val: 0x00ffffffffffffff}}, true},
		{11, []byte{0, 0x80}, []api.Edit{{Word: 1, Val: 0xffffff8000ffffff}}, true},
		{6, []byte{7, 8, 9, 10}, []api.Edit{{Word: 0, Val: 0x0807111111111111}, {Word: 1, Val: 0xffffffffffff0a09}}, true},
		{7, []byte{1, 2, 3, 4, 5, 6, 7, 8, 9, 10}, []api.Edit{{Word: 0, Val: 0x0111111111111111}, {Word: 1, Val: 0x0908070605040302}, {Word: 2, Val: 10}}, true},
		{16, []byte{1, 2, 3, 4, 5, 6, 7, 0xff}, []api.Edit{{Word: 2, Val: 0xff07060504030201}}, true},
		{0, []byte{0x11}, []api.Edit{{Word: 0, Val: 0x1111111111111111}}, true}, // as it was, and told all the same
		{0, nil, nil, true}, {24, nil, nil, true}, {5, []byte{}, nil, true},
		{25, nil, nil, false}, {24, []byte{1}, nil, false}, {23, []byte{1, 2}, nil, false}, {-1, []byte{1}, nil, false}, {-1, nil, nil, false}, {-8, make([]byte, 16), nil, false}, {0, make([]byte, 25), nil, false},
	} {
		if got, ok := span.Edits(w, x.off, x.b); ok != x.ok || !slices.Equal(got, x.want) {
			t.Errorf("row %d: %x %v", i, got, ok)
		}
	}
}

// P18.1, P18.3: all places in few words, and those around them.
func TestEdits(t *testing.T) {
	for words := range 5 {
		w := ladder(words)
		for off := -10; off <= 8*words+10; off++ {
			for n := 0; n <= 8*words+10; n++ {
				checkEdits(t, w, off, odd(n))
			}
		}
	}
}

// P18.1: as many bytes as one call may have, and one more.
func TestMostBytes(t *testing.T) {
	w := ladder(60)
	for off := range 40 {
		for n := mostBytes - 2; n <= mostBytes+2; n++ {
			checkRead(t, w, off, n)
			checkEdits(t, w, off, odd(n))
		}
	}
	if b, ok := span.Read(w, 0, 448); !ok || len(b) != 448 {
		t.Error(b, ok)
	}
	if b, ok := span.Read(w, 0, 449); ok || b != nil {
		t.Error(b, ok)
	}
	if l, ok := span.Edits(w, 3, make([]byte, 448)); !ok || len(l) != 57 {
		t.Error(l, ok)
	}
	if l, ok := span.Edits(w, 0, make([]byte, 449)); ok || l != nil {
		t.Error(l, ok)
	}
	if _, ok := span.Edits(w, 0, make([]byte, 1<<20)); ok {
		t.Error("far too many bytes")
	}
}

// P18.1: words beyond those of which Pieces tells parts are read and edited, too.
func TestFarWords(t *testing.T) {
	w := make([]uint64, 150000)
	for i := range w {
		w[i] = uint64(i) << 40
	}
	for _, off := range []int{mostOff - 3, mostOff, mostOff + 1, mostOff + 5, 1100003, 1199992, 1199999, 1200000} {
		for _, n := range []int{0, 1, 2, 8, 9} {
			b, ok := span.Read(w, off, n)
			l, is := span.Edits(w, off, odd(n))
			if want := off+n <= 1200000; ok != want || is != want {
				t.Fatal(off, n, ok, is)
			}
			if !ok {
				continue
			}
			if want := bytesOf(w[off/8 : min(off/8+3, len(w))])[off%8:][:n]; !slices.Equal(b, want) {
				t.Fatal(off, n, b)
			}
			after := span.Apply(w, l)
			if b, _ := span.Read(after, off, n); !slices.Equal(b, odd(n)) {
				t.Fatal(off, n, l)
			}
			for _, e := range l {
				after[e.Word] = w[e.Word]
			}
			if !slices.Equal(after, w) {
				t.Fatal(off, n, l)
			}
		}
	}
}

// P18.1, R1, R3: numbers whose sum would go round, of some words and of none.
func TestFarAway(t *testing.T) {
	for _, w := range [][]uint64{nil, {}, ladder(1), ladder(60)} {
		for _, far := range farNumbers() {
			for _, n := range append(farNumbers(), -1, 0, 1, 8, mostBytes) {
				checkRead(t, w, far, n)
				checkRead(t, w, n, far)
			}
			for _, n := range []int{0, 1, 8, 447, 448, 449} {
				checkEdits(t, w, far, odd(n))
			}
		}
	}
}

// P18.2: words in which edits are done, written out; the later one of a word stands, and one of no word is passed over.
func TestApplyByHand(t *testing.T) {
	for i, x := range []struct {
		w    []uint64
		l    []api.Edit
		want []uint64
	}{
		{[]uint64{1, 2, 3}, nil, []uint64{1, 2, 3}},
		{[]uint64{1, 2, 3}, []api.Edit{{Word: 1, Val: 9}}, []uint64{1, 9, 3}},
		{[]uint64{1, 2, 3}, []api.Edit{{Word: 2, Val: 7}, {Word: 0, Val: math.MaxUint64}}, []uint64{math.MaxUint64, 2, 7}},
		{[]uint64{1, 2, 3}, []api.Edit{{Word: 1, Val: 5}, {Word: 1, Val: 6}, {Word: 0, Val: 0}, {Word: 1, Val: 4}}, []uint64{0, 4, 3}},
		{[]uint64{1, 2}, []api.Edit{{Word: 2, Val: 5}, {Word: -1, Val: 6}, {Word: 1, Val: 7}}, []uint64{1, 7}},
		{[]uint64{1}, []api.Edit{{Word: math.MaxInt, Val: 5}, {Word: math.MinInt, Val: 6}, {Word: 1 << 32, Val: 7}, {Word: -1 << 32, Val: 8}}, []uint64{1}},
		{nil, []api.Edit{{Word: 0, Val: 5}}, nil},
		{[]uint64{}, []api.Edit{{Word: 0, Val: 5}, {Word: -1}}, nil},
		{nil, nil, nil},
	} {
		if got := span.Apply(x.w, x.l); !slices.Equal(got, x.want) {
			t.Errorf("row %d: %v, not %v", i, got, x.want)
		}
	}
}

// P18.2: each word that there is can be edited, and none beside it changes.
func TestApplyEachWord(t *testing.T) {
	w := ladder(512)
	for word := -2; word <= 514; word++ {
		want := ladder(512)
		if word >= 0 && word <= 511 {
			want[word] = 77
		}
		if got := span.Apply(w, []api.Edit{{Word: word, Val: 77}}); !slices.Equal(got, want) {
			t.Fatal(word)
		}
	}
}

// P18.2: lines of edits, written out: each once, rising, in whatever order the edits are.
func TestLinesByHand(t *testing.T) {
	for i, x := range []struct {
		words []int
		want  []int
	}{
		{nil, nil}, {[]int{0}, []int{0}}, {[]int{7}, []int{0}}, {[]int{8}, []int{1}}, {[]int{15, 16}, []int{1, 2}},
		{[]int{0, 1, 2, 3, 4, 5, 6, 7}, []int{0}}, {[]int{7, 8}, []int{0, 1}}, {[]int{8, 7}, []int{0, 1}},
		{[]int{40, 3, 41, 2, 40, 17}, []int{0, 2, 5}}, {[]int{511, 512, 0}, []int{0, 63, 64}},
		{[]int{-1}, nil}, {[]int{-1, -7, -8, -9, math.MinInt}, nil}, {[]int{-1, 9, -8, 9}, []int{1}},
		{[]int{math.MaxInt, 1 << 32, 1<<32 + 8, 0}, []int{0, 1 << 29, 1<<29 + 1, 1<<60 - 1}},
		{[]int{math.MaxInt, math.MaxInt - 7, math.MaxInt - 8}, []int{1<<60 - 2, 1<<60 - 1}},
	} {
		var l []api.Edit
		for _, word := range x.words {
			l = append(l, api.Edit{Word: word, Val: 5})
		}
		if got := span.Lines(l); !slices.Equal(got, x.want) {
			t.Errorf("row %d: %v, not %v", i, got, x.want)
		}
	}
}

// P18.2: of one edit its line, of each word that a heap can have; of any two, both, or one.
func TestLines(t *testing.T) {
	for a := -10; a < 40; a++ {
		for b := -10; b < 520; b++ {
			var want []int
			for line := range 65 {
				if a >= 8*line && a <= 8*line+7 || b >= 8*line && b <= 8*line+7 {
					want = append(want, line)
				}
			}
			if got := span.Lines([]api.Edit{{Word: b}, {Word: a}}); !slices.Equal(got, want) {
				t.Fatal(a, b, got)
			}
		}
	}
}

// P18.1, P18.2: the lines of an edit are those that its bytes are of.
func TestLinesOfBytes(t *testing.T) {
	w := ladder(64)
	for off := 0; off < 512; off += 3 {
		for n := 1; n <= mostBytes && off+n <= 512; n++ {
			l, _ := span.Edits(w, off, odd(n))
			var want []int
			for line := off / 64; line <= (off+n-1)/64; line++ {
				want = append(want, line)
			}
			if got := span.Lines(l); !slices.Equal(got, want) {
				t.Fatal(off, n, got)
			}
		}
	}
}

// P18.3: in long runs what is written is what is read, and all other bytes are as they were.
func TestLongRuns(t *testing.T) {
	state := uint64(18)
	for range 40 {
		w := make([]uint64, 1+next(&state, 100))
		mirror := make([]byte, 8*len(w))
		for range 100 {
			b := make([]byte, next(&state, min(len(mirror), mostBytes)+1))
			for i := range b {
				b[i] = byte(next(&state, 256))
			}
			off := next(&state, len(mirror)-len(b)+1)
			checkEdits(t, w, off, b)
			l, _ := span.Edits(w, off, b)
			w = span.Apply(w, l)
			copy(mirror[off:], b)
			if got, ok := span.Read(w, off, len(b)); !ok || !slices.Equal(got, b) {
				t.Fatal(off, b, got)
			}
			if !slices.Equal(bytesOf(w), mirror) {
				t.Fatal(off, b, w)
			}
		}
	}
}

// R3: as many edits and words as there are, it ends.
func TestMany(t *testing.T) {
	l := make([]api.Edit, 1000000)
	for i := range l {
		l[i] = api.Edit{Word: len(l) - i, Val: uint64(i)}
	}
	if got := span.Lines(l); len(got) != 125001 || !slices.IsSorted(got) {
		t.Error(len(got))
	}
	if got := span.Apply(make([]uint64, len(l)), l); got[0] != 0 || got[1] != 999999 || got[999999] != 1 {
		t.Error(got[:2])
	}
}

// R2: nothing that is handed in is changed, and what is behind its length is neither read nor written.
func TestHandedIn(t *testing.T) {
	w, b := ladder(6), odd(20)
	l := []api.Edit{{Word: 17, Val: 1}, {Word: 3, Val: 2}, {Word: -1, Val: 3}, {Word: 3, Val: 4}, {Word: 40, Val: 5}}
	wasW, wasB, wasL := slices.Clone(w), slices.Clone(b), slices.Clone(l)
	for off := range 48 {
		for n := range 21 {
			for words := range 7 {
				checkRead(t, w[:words], off, n)
				checkEdits(t, w[:words], off, b[:n])
			}
		}
	}
	for n := range l {
		span.Apply(w[:n], l[:n])
	}
	if got := span.Lines(l[:2]); !slices.Equal(got, []int{0, 2}) {
		t.Error(got)
	}
	if got := span.Apply(w[:2], l); !slices.Equal(got, wasW[:2]) {
		t.Error(got)
	}
	span.Lines(l)
	if !slices.Equal(w, wasW) || !slices.Equal(b, wasB) || !slices.Equal(l, wasL) {
		t.Error(w, b, l)
	}
}

// R2: what is told is new memory.
func TestNewMemory(t *testing.T) {
	w, b := ladder(6), odd(20)
	l, _ := span.Edits(w, 3, b)
	read, _ := span.Read(w, 3, 20)
	bare, after := span.Apply(w, nil), span.Apply(w, l)
	lines, parts := span.Lines(l), span.Pieces(3, 20)
	wasW, wasL, wasB := slices.Clone(w), slices.Clone(l), slices.Clone(b)
	clear(read[:cap(read)])
	clear(bare[:cap(bare)])
	clear(after[:cap(after)])
	clear(lines[:cap(lines)])
	clear(parts[:cap(parts)])
	if !slices.Equal(w, wasW) || !slices.Equal(l, wasL) || !slices.Equal(b, wasB) {
		t.Error(w, l, b)
	}
	clear(l[:cap(l)])
	if !slices.Equal(w, wasW) || !slices.Equal(b, wasB) {
		t.Error(w, b)
	}
	read, _ = span.Read(w, 3, 20)
	l, _ = span.Edits(w, 3, b)
	after = span.Apply(w, l)
	wasRead, wasAfter := slices.Clone(read), slices.Clone(after)
	clear(w)
	clear(b)
	if !slices.Equal(read, wasRead) || !slices.Equal(l, wasL) || !slices.Equal(after, wasAfter) {
		t.Error(read, l, after)
	}
}

// R6: asked again, behind others, the answers are the same.
func TestSameAgain(t *testing.T) {
	w := ladder(4)
	for off := range 34 {
		for n := range 34 {
			span.Pieces(off, n)
			span.Read(w, off, n)
			l, _ := span.Edits(w, off, odd(n))
			span.Apply(w, l)
			span.Lines(l)
			checkPieces(t, 6, 4)
			checkRead(t, ladder(3), 7, 10)
			checkEdits(t, ladder(3), 6, odd(4))
		}
	}
}
