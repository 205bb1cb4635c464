package slot_test

import (
	"math"
	"testing"

	"stepstone/api"
	"stepstone/slot"
)

// The tests say where the parts stand by numbers of their own, so that they don't err along with the package.
const (
	lastGen   = 1<<30 - 1
	lastValue = uint64(1<<63 - 1)
	allBits   = uint64(math.MaxUint64)
)

func states() []int { return []int{slot.Free, slot.Taken, slot.Out} }

func edgeGens() []int {
	return []int{0, 1, 2, 3, 9, 64, 1<<15 - 1, 1 << 15, 1 << 28, 1 << 29, lastGen - 1, lastGen}
}

// wrongGens has numbers whose low bits, or whose bits once they are moved up, would be those of a generation.
func wrongGens() []int {
	return []int{-1, -2, -3, -lastGen, -(1 << 30), -(1 << 30) + 1, math.MinInt, math.MinInt + 1, api.MaxLast + 1, 1<<30 + 1, 1 << 31, 1 << 32, 1<<32 + 1, 1 << 61, 1 << 62, 1<<62 + 3, math.MaxInt}
}

func wrongStates() []int {
	return []int{-1, -2, -3, -4, 3, 4, 5, 8, 1 << 30, 1 << 32, 1<<32 + 1, 1<<62 + 1, math.MaxInt, math.MinInt, math.MinInt + 1}
}

func edgeValues() []uint64 {
	return []uint64{0, 1, 2, 3, 7, 1<<31 - 1, 1 << 31, 1 << 32, 1<<61 + 5, 1 << 62, lastValue - 1, lastValue}
}

// sampleWords has words of every kind: edges, each bit alone and left out, and some that are spread out.
func sampleWords() []uint64 {
	l := []uint64{0, 1, 2, 3, 4, 13, 14, 15, 16, 38, 1<<32 - 1, 1 << 32, 1<<32 + 1, 1<<32 + 3, allBits, allBits - 1, allBits - 3}
	for i := range 64 {
		l = append(l, 1<<i, allBits&^(1<<i), 1<<i|1, 1<<i|2, 1<<i|3)
	}
	w := uint64(1)
	for range 2000 {
		w = w*6364136223846793005 + 1442695040888963407
		l = append(l, w, w>>1, w>>31, w>>33, w>>60)
	}
	return l
}

func TestStatesAreCounted(t *testing.T) { // P2.1
	if slot.Free != 0 || slot.Taken != 1 || slot.Out != 2 {
		t.Error(slot.Free, slot.Taken, slot.Out)
	}
}

func TestMetaTellsTheWord(t *testing.T) { // P2.1
	for _, x := range []struct {
		state, gen int
		w          uint64
	}{
		{slot.Free, 0, 0},
		{slot.Taken, 0, 1},
		{slot.Out, 0, 2},
		{slot.Free, 1, 4},
		{slot.Taken, 3, 13},
		{slot.Out, 9, 38},
		{slot.Free, api.MaxLast, 0xfffffffc},
		{slot.Taken, api.MaxLast, 0xfffffffd},
		{slot.Out, api.MaxLast, 0xfffffffe},
		{slot.Taken, 0x12345678, 0x48d159e1},
	} {
		if w, is := slot.Meta(x.state, x.gen); w != x.w || !is {
			t.Errorf("Meta(%d, %d) = %#x, %v; want %#x, true", x.state, x.gen, w, is, x.w)
		}
	}
}

func TestMetaTellsTheWordAtAllEdges(t *testing.T) { // P2.1
	for _, state := range states() {
		for _, gen := range edgeGens() {
			want := uint64(gen)*4 + uint64(state)
			if w, is := slot.Meta(state, gen); w != want || !is {
				t.Errorf("Meta(%d, %d) = %#x, %v; want %#x, true", state, gen, w, is, want)
			}
		}
	}
}

func wantNone(t *testing.T, state, gen int) {
	t.Helper()
	if w, is := slot.Meta(state, gen); w != 0 || is {
		t.Errorf("Meta(%d, %d) = %#x, %v; want 0, false", state, gen, w, is)
	}
}

func TestMetaRefusesWrongParts(t *testing.T) { // P2.1
	for _, state := range wrongStates() {
		for _, gen := range append(edgeGens(), wrongGens()...) {
			wantNone(t, state, gen)
		}
	}
	for _, gen := range wrongGens() {
		for _, state := range states() {
			wantNone(t, state, gen)
		}
	}
}

func TestPartsOfWords(t *testing.T) { // P2.1
	for _, x := range []struct {
		w          uint64
		state, gen int
	}{
		{0, slot.Free, 0},
		{1, slot.Taken, 0},
		{2, slot.Out, 0},
		{3, 3, 0},
		{13, slot.Taken, 3},
		{15, 3, 3},
		{0xfffffffc, slot.Free, api.MaxLast},
		{0xffffffff, 3, api.MaxLast},
		{0xfffffff9, slot.Taken, api.MaxLast - 1},
		{1 << 32, slot.Free, api.MaxLast},
		{1<<32 + 1, slot.Taken, api.MaxLast},
		{1<<32 + 14, slot.Out, api.MaxLast},
		{1 << 63, slot.Free, api.MaxLast},
		{allBits - 1, slot.Out, api.MaxLast},
		{allBits, 3, api.MaxLast},
	} {
		if g := slot.State(x.w); g != x.state {
			t.Errorf("State(%#x) = %d; want %d", x.w, g, x.state)
		}
		if g := slot.Gen(x.w); g != x.gen {
			t.Errorf("Gen(%#x) = %d; want %d", x.w, g, x.gen)
		}
	}
}

func TestPartsOfAnyWord(t *testing.T) { // P2.1
	for _, w := range sampleWords() {
		gen := w / 4
		if gen > lastGen {
			gen = lastGen
		}
		if uint64(slot.State(w)) != w%4 || uint64(slot.Gen(w)) != gen {
			t.Errorf("%#x: state %d, generation %d; want %d, %d", w, slot.State(w), slot.Gen(w), w%4, gen)
		}
	}
}

func TestAfterTellsTheWord(t *testing.T) { // P2.2
	for _, x := range []struct {
		gen, last int
		w         uint64
	}{
		{0, 9, 4},
		{3, 9, 16},
		{7, 9, 32},
		{8, 9, 36},
		{9, 9, 38},
		{10, 9, 38},
		{math.MaxInt, 9, 38},
		{0, 0, 2},
		{1, 0, 2},
		{0, 1, 4},
		{1, 1, 6},
		{-1, 9, 4},
		{math.MinInt, 9, 4},
		{-1, 1, 4},
		{-1, 0, 2},
		{math.MinInt, 0, 2},
		{0, -1, 2},
		{5, -1, 2},
		{-1, -1, 2},
		{-5, -3, 2},
		{-3, -5, 2},
		{5, math.MinInt, 2},
		{math.MinInt, math.MinInt, 2},
		{math.MaxInt, math.MinInt, 2},
		{5, api.MaxLast + 1, 24},
		{5, math.MaxInt, 24},
		{api.MaxLast - 1, api.MaxLast, 0xfffffffc},
		{api.MaxLast, api.MaxLast, 0xfffffffe},
		{api.MaxLast - 1, api.MaxLast + 1, 0xfffffffc},
		{api.MaxLast, api.MaxLast + 1, 0xfffffffe},
		{api.MaxLast + 1, api.MaxLast + 1, 0xfffffffe},
		{api.MaxLast + 1, api.MaxLast + 5, 0xfffffffe},
		{api.MaxLast, math.MaxInt, 0xfffffffe},
		{math.MaxInt, math.MaxInt, 0xfffffffe},
		{math.MinInt, math.MaxInt, 4},
	} {
		if w := slot.After(x.gen, x.last); w != x.w {
			t.Errorf("After(%d, %d) = %#x; want %#x", x.gen, x.last, w, x.w)
		}
	}
}

func TestValueTellsTheWord(t *testing.T) { // P2.3
	for _, x := range []struct{ v, w uint64 }{
		{0, 0},
		{1, 2},
		{7, 14},
		{1 << 62, 1 << 63},
		{api.MaxValue - 1, allBits - 3},
		{api.MaxValue, allBits - 1},
	} {
		if w, is := slot.Value(x.v); w != x.w || !is {
			t.Errorf("Value(%#x) = %#x, %v; want %#x, true", x.v, w, is, x.w)
		}
	}
}

func TestValueRefusesWhatIsTooGreat(t *testing.T) { // P2.3
	for _, v := range []uint64{api.MaxValue + 1, api.MaxValue + 2, 1<<63 + 7, 1<<63 | 1<<62, allBits - 1, allBits} {
		if w, is := slot.Value(v); w != 0 || is {
			t.Errorf("Value(%#x) = %#x, %v; want 0, false", v, w, is)
		}
	}
}

func TestPartsOfValueWords(t *testing.T) { // P2.3
	for _, x := range []struct {
		w    uint64
		dead bool
		kill uint64
		of   uint64
	}{
		{0, false, 1, 0},
		{1, true, 1, 0},
		{2, false, 3, 1},
		{3, true, 3, 1},
		{14, false, 15, 7},
		{15, true, 15, 7},
		{1 << 63, false, 1<<63 + 1, 1 << 62},
		{allBits - 1, false, allBits, api.MaxValue},
		{allBits, true, allBits, api.MaxValue},
	} {
		if g := slot.Dead(x.w); g != x.dead {
			t.Errorf("Dead(%#x) = %v", x.w, g)
		}
		if g := slot.Kill(x.w); g != x.kill {
			t.Errorf("Kill(%#x) = %#x; want %#x", x.w, g, x.kill)
		}
		if g := slot.Of(x.w); g != x.of {
			t.Errorf("Of(%#x) = %#x; want %#x", x.w, g, x.of)
		}
	}
}

func TestPartsOfAnyValueWord(t *testing.T) { // P2.3
	for _, w := range sampleWords() {
		if slot.Dead(w) != (w%2 == 1) || slot.Kill(w) != w|1 || slot.Of(w) != w/2 {
			t.Errorf("%#x: dead %v, killed %#x, of %#x", w, slot.Dead(w), slot.Kill(w), slot.Of(w))
		}
	}
}

func TestPartsOfAWordAreWhatItWasMadeOf(t *testing.T) { // P2.4
	type made struct{ state, gen int }
	from := map[uint64]made{}
	for _, state := range states() {
		for _, gen := range edgeGens() {
			w, is := slot.Meta(state, gen)
			if !is || slot.State(w) != state || slot.Gen(w) != gen {
				t.Errorf("Meta(%d, %d) = %#x, %v: other parts come out", state, gen, w, is)
			}
			if other, there := from[w]; there {
				t.Errorf("%#x is made of %v and of %v", w, other, made{state, gen})
			}
			from[w] = made{state, gen}
		}
	}
	for _, v := range edgeValues() {
		w, is := slot.Value(v)
		if !is || slot.Of(w) != v || slot.Dead(w) {
			t.Errorf("Value(%#x) = %#x, %v: other parts come out", v, w, is)
		}
	}
}

func TestAnyWordIsMadeOfItsParts(t *testing.T) { // P2.4
	for _, w := range sampleWords() {
		g, is := slot.Meta(slot.State(w), slot.Gen(w))
		if (slot.State(w) != 3) != is || is && slot.Gen(w) < lastGen && g != w {
			t.Errorf("the parts of %#x make %#x, %v", w, g, is)
		}
		v, is := slot.Value(slot.Of(w))
		if !is || !slot.Dead(w) && v != w || slot.Dead(w) && slot.Kill(v) != w {
			t.Errorf("the value of %#x makes %#x, %v", w, v, is)
		}
	}
}

func TestWhatIsLetGoOfHasAnotherGenerationOrIsOut(t *testing.T) { // P2.4
	for _, last := range edgeGens() {
		for _, gen := range edgeGens() {
			w := slot.After(gen, last)
			state, next := slot.State(w), slot.Gen(w)
			if gen < last && (state != slot.Free || next != gen+1) || gen >= last && (state != slot.Out || next != last) {
				t.Errorf("After(%d, %d) = %#x: state %d, generation %d", gen, last, w, state, next)
			}
			if g, is := slot.Meta(state, next); !is || g != w {
				t.Errorf("After(%d, %d) = %#x, which is no word of a slot", gen, last, w)
			}
		}
	}
}

func TestASlotIsTakenInEachGenerationOnce(t *testing.T) { // P2.4
	const last = 9
	w := uint64(0)
	for gen := range last + 1 {
		if slot.State(w) != slot.Free || slot.Gen(w) != gen {
			t.Fatalf("%#x: state %d, generation %d; want it Free in %d", w, slot.State(w), slot.Gen(w), gen)
		}
		w = slot.After(gen, last)
	}
	if slot.State(w) != slot.Out {
		t.Errorf("%#x is not Out behind the last generation", w)
	}
}

func TestDeadWordHasTheValueThatItHad(t *testing.T) { // P2.4
	for _, w := range sampleWords() {
		k := slot.Kill(w)
		if !slot.Dead(k) || slot.Of(k) != slot.Of(w) || slot.Kill(k) != k {
			t.Errorf("Kill(%#x) = %#x: dead %v, of %#x", w, k, slot.Dead(k), slot.Of(k))
		}
	}
}
