package handle_test

import (
	"math"
	"testing"

	"stepstone/api"
	"stepstone/handle"
)

// The tests say where the parts stand by numbers of their own, so that they don't err along with the package.
const (
	lastIndex = 1<<32 - 1
	lastGen   = 1<<30 - 1
	markBit   = uint64(1) << 62
	namesBit  = uint64(1) << 63
	allBits   = uint64(math.MaxUint64)
)

func edgeIndexes() []int {
	return []int{0, 1, 2, 5, 64, 1<<16 - 1, 1 << 16, 1<<31 - 1, 1 << 31, lastIndex - 1, lastIndex}
}

func edgeGens() []int {
	return []int{0, 1, 2, 3, 1<<15 - 1, 1 << 15, 1 << 29, lastGen - 1, lastGen}
}

func wrongIndexes() []int {
	return []int{-1, -2, -lastIndex, -(1 << 32), -(1 << 32) + 5, math.MinInt, math.MinInt + 5, 1 << 32, 1<<32 + 5, 1<<62 + 5, math.MaxInt}
}

func wrongGens() []int {
	return []int{-1, -2, -lastGen, -(1 << 30), -(1 << 30) + 1, math.MinInt, math.MinInt + 1, api.MaxLast + 1, 1<<30 + 1, 1 << 31, 1 << 32, 1<<32 + 1, math.MaxInt}
}

// sampleWords has words of every kind: edges, each bit alone and left out, and some that are spread out.
func sampleWords() []uint64 {
	l := []uint64{0, allBits, namesBit, markBit, namesBit | markBit, namesBit - 1, markBit - 1, lastIndex, 1 << 32, 9223372041149743109}
	for i := range 64 {
		l = append(l, 1<<i, allBits&^(1<<i), namesBit|1<<i, markBit|1<<i)
	}
	w := uint64(1)
	for range 2000 {
		w = w*6364136223846793005 + 1442695040888963407
		l = append(l, w, w>>1, w>>2, w|namesBit, w|namesBit|markBit)
	}
	return l
}

func TestPackTellsTheWord(t *testing.T) { // P1.1
	for _, x := range []struct {
		index, gen int
		mark       bool
		w          uint64
	}{
		{5, 1, false, 9223372041149743109},
		{5, 1, true, 13835058059577131013},
		{0, 0, false, 0x8000000000000000},
		{0, 0, true, 0xc000000000000000},
		{lastIndex, 0, false, 0x80000000ffffffff},
		{lastIndex, 0, true, 0xc0000000ffffffff},
		{0, api.MaxLast, false, 0xbfffffff00000000},
		{0, api.MaxLast, true, 0xffffffff00000000},
		{lastIndex, api.MaxLast, false, 0xbfffffffffffffff},
		{lastIndex, api.MaxLast, true, 0xffffffffffffffff},
		{1 << 31, 1 << 29, false, 0xa000000080000000},
		{0x12345678, 0x0abcdef0, true, 0xcabcdef012345678},
	} {
		if w, is := handle.Pack(x.index, x.gen, x.mark); w != x.w || !is {
			t.Errorf("Pack(%d, %d, %v) = %#x, %v; want %#x, true", x.index, x.gen, x.mark, w, is, x.w)
		}
	}
}

func TestPackTellsTheWordAtAllEdges(t *testing.T) { // P1.1
	for _, index := range edgeIndexes() {
		for _, gen := range edgeGens() {
			plain := namesBit + uint64(gen)*(1<<32) + uint64(index)
			if w, is := handle.Pack(index, gen, false); w != plain || !is {
				t.Errorf("Pack(%d, %d, false) = %#x, %v; want %#x, true", index, gen, w, is, plain)
			}
			if w, is := handle.Pack(index, gen, true); w != plain+markBit || !is {
				t.Errorf("Pack(%d, %d, true) = %#x, %v; want %#x, true", index, gen, w, is, plain+markBit)
			}
		}
	}
}

func wantNone(t *testing.T, index, gen int) {
	t.Helper()
	for _, mark := range []bool{false, true} {
		if w, is := handle.Pack(index, gen, mark); w != 0 || is {
			t.Errorf("Pack(%d, %d, %v) = %#x, %v; want 0, false", index, gen, mark, w, is)
		}
	}
}

func TestPackRefusesWrongParts(t *testing.T) { // P1.1
	for _, index := range wrongIndexes() {
		for _, gen := range append(edgeGens(), wrongGens()...) {
			wantNone(t, index, gen)
		}
	}
	for _, gen := range wrongGens() {
		for _, index := range edgeIndexes() {
			wantNone(t, index, gen)
		}
	}
}

func TestPartsOfWords(t *testing.T) { // P1.2
	for _, x := range []struct {
		w             uint64
		valid, marked bool
		index, gen    int
		mark, plain   uint64
	}{
		{0, false, false, 0, 0, 0x4000000000000000, 0},
		{allBits, true, true, lastIndex, api.MaxLast, allBits, 0xbfffffffffffffff},
		{9223372041149743109, true, false, 5, 1, 13835058059577131013, 9223372041149743109},
		{13835058059577131013, true, true, 5, 1, 13835058059577131013, 9223372041149743109},
		{0x8000000000000000, true, false, 0, 0, 0xc000000000000000, 0x8000000000000000},
		{0x7fffffffffffffff, false, true, lastIndex, api.MaxLast, 0x7fffffffffffffff, 0x3fffffffffffffff},
		{0x4000000000000007, false, true, 7, 0, 0x4000000000000007, 7},
		{7, false, false, 7, 0, 0x4000000000000007, 7},
		{0x00000000ffffffff, false, false, lastIndex, 0, 0x40000000ffffffff, 0x00000000ffffffff},
		{0x0000000100000000, false, false, 0, 1, 0x4000000100000000, 0x0000000100000000},
		{0x3fffffff00000000, false, false, 0, api.MaxLast, 0x7fffffff00000000, 0x3fffffff00000000},
		{0xcabcdef012345678, true, true, 0x12345678, 0x0abcdef0, 0xcabcdef012345678, 0x8abcdef012345678},
	} {
		if g := handle.Valid(x.w); g != x.valid {
			t.Errorf("Valid(%#x) = %v", x.w, g)
		}
		if g := handle.Marked(x.w); g != x.marked {
			t.Errorf("Marked(%#x) = %v", x.w, g)
		}
		if g := handle.Index(x.w); g != x.index {
			t.Errorf("Index(%#x) = %d; want %d", x.w, g, x.index)
		}
		if g := handle.Gen(x.w); g != x.gen {
			t.Errorf("Gen(%#x) = %d; want %d", x.w, g, x.gen)
		}
		if g := handle.Mark(x.w); g != x.mark {
			t.Errorf("Mark(%#x) = %#x; want %#x", x.w, g, x.mark)
		}
		if g := handle.Plain(x.w); g != x.plain {
			t.Errorf("Plain(%#x) = %#x; want %#x", x.w, g, x.plain)
		}
	}
}

func TestPartsOfAnyWord(t *testing.T) { // P1.2
	for _, w := range sampleWords() {
		if handle.Valid(w) != (w >= namesBit) {
			t.Errorf("Valid(%#x) = %v", w, handle.Valid(w))
		}
		if handle.Marked(w) != (w&markBit != 0) {
			t.Errorf("Marked(%#x) = %v", w, handle.Marked(w))
		}
		if g := handle.Index(w); uint64(g) != w%(1<<32) {
			t.Errorf("Index(%#x) = %d", w, g)
		}
		if g := handle.Gen(w); uint64(g) != w/(1<<32)%(1<<30) {
			t.Errorf("Gen(%#x) = %d", w, g)
		}
		if g := handle.Mark(w); g != w|markBit {
			t.Errorf("Mark(%#x) = %#x", w, g)
		}
		if g := handle.Plain(w); g != w&^markBit {
			t.Errorf("Plain(%#x) = %#x", w, g)
		}
	}
}

type made struct {
	index, gen int
	mark       bool
}

func TestPackedPartsComeBack(t *testing.T) { // P1.3: the parts of a packed word; the same words, the same parts
	from := map[uint64]made{}
	for _, index := range edgeIndexes() {
		for _, gen := range edgeGens() {
			for _, mark := range []bool{false, true} {
				w, is := handle.Pack(index, gen, mark)
				if !is || !handle.Valid(w) || handle.Index(w) != index || handle.Gen(w) != gen || handle.Marked(w) != mark {
					t.Errorf("Pack(%d, %d, %v) = %#x, %v: other parts come out", index, gen, mark, w, is)
				}
				if other, there := from[w]; there {
					t.Errorf("%#x is packed of %v and of %v", w, other, made{index, gen, mark})
				}
				from[w] = made{index, gen, mark}
				if again, _ := handle.Pack(index, gen, mark); again != w {
					t.Errorf("Pack(%d, %d, %v) = %#x, then %#x", index, gen, mark, w, again)
				}
			}
		}
	}
}

func TestValidWordIsPackedOfItsParts(t *testing.T) { // P1.3
	for _, w := range sampleWords() {
		g, is := handle.Pack(handle.Index(w), handle.Gen(w), handle.Marked(w))
		if !is {
			t.Errorf("the parts of %#x can't be packed", w)
		}
		if handle.Valid(w) != (g == w) {
			t.Errorf("the parts of %#x, which names a node: %v, are packed as %#x", w, handle.Valid(w), g)
		}
	}
}

func TestMarkChangesNoOtherPart(t *testing.T) { // P1.3
	for _, w := range sampleWords() {
		for _, g := range []uint64{handle.Mark(w), handle.Plain(w)} {
			if handle.Valid(g) != handle.Valid(w) || handle.Index(g) != handle.Index(w) || handle.Gen(g) != handle.Gen(w) {
				t.Errorf("%#x of %#x: another part has changed", g, w)
			}
		}
		if !handle.Marked(handle.Mark(w)) || handle.Marked(handle.Plain(w)) {
			t.Errorf("Mark(%#x) has no mark, or Plain has one", w)
		}
		if handle.Mark(handle.Plain(w)) != handle.Mark(w) || handle.Plain(handle.Mark(w)) != handle.Plain(w) {
			t.Errorf("%#x: what the mark was before is still told", w)
		}
		if handle.Marked(w) && handle.Mark(w) != w || !handle.Marked(w) && handle.Plain(w) != w {
			t.Errorf("%#x: a mark that is as it was changes the word", w)
		}
	}
}
