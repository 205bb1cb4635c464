package cover_test

import (
	"math"
	"slices"
	"testing"

	"stepstone/cover"
)

const greatest = uint64(math.MaxUint64)

func entry(node, birth, retired uint64) cover.Entry {
	return cover.Entry{Node: node, Birth: birth, Retired: retired}
}

func lived(birth, retired uint64) cover.Entry { return entry(1, birth, retired) }

// edgeEras has eras that are near one another, and both ends of all numbers, where a sum or a sign would go round.
func edgeEras() []uint64 {
	return []uint64{0, 1, 2, 3, 4, 5, 1<<32 - 1, 1 << 32, 1<<63 - 1, 1 << 63, greatest - 1, greatest}
}

// edgeEntries has an entry for each two of the edges, the ones too whose Birth is above their Retired.
func edgeEntries() []cover.Entry {
	var l []cover.Entry
	for _, birth := range edgeEras() {
		for _, retired := range edgeEras() {
			l = append(l, entry(uint64(len(l)), birth, retired))
		}
	}
	return l
}

// eraLists has lists of none, one, two and three of the edges.
func eraLists() [][]uint64 {
	l := [][]uint64{nil, {}}
	for _, a := range edgeEras() {
		l = append(l, []uint64{a})
		for _, b := range edgeEras() {
			l = append(l, []uint64{a, b}, []uint64{b, 0, a}, []uint64{a, b, a})
		}
	}
	return l
}

// covered counts the eras that the chapter's words rule out, so that it doesn't err along with the package.
func covered(e cover.Entry, eras []uint64) bool {
	out := 0
	for _, era := range eras {
		switch {
		case era == 0, era < e.Birth, era > e.Retired:
			out++
		}
	}
	return out < len(eras)
}

func wantSplit(t *testing.T, l []cover.Entry, eras []uint64, in, out []cover.Entry) {
	t.Helper()
	had, hadEras := slices.Clone(l), slices.Clone(eras)
	gin, gout := cover.Split(l, eras...)
	if !slices.Equal(gin, in) || !slices.Equal(gout, out) {
		t.Errorf("Split(%v, %v): %v and %v; want %v and %v", had, hadEras, gin, gout, in, out)
	}
	if !slices.Equal(l, had) || !slices.Equal(eras, hadEras) {
		t.Errorf("Split(%v, %v) left %v and %v", had, hadEras, l, eras)
	}
}

func wantOldest(t *testing.T, l []cover.Entry, want uint64, there bool) {
	t.Helper()
	had := slices.Clone(l)
	if n, ok := cover.Oldest(l); n != want || ok != there {
		t.Errorf("Oldest(%v): %d, %v; want %d, %v", had, n, ok, want, there)
	}
	if !slices.Equal(l, had) {
		t.Errorf("Oldest(%v) left %v", had, l)
	}
}

func TestExamples(t *testing.T) { // P6.1
	if cover.Covered(lived(3, 5), 0, 2, 6) {
		t.Error("born 3, retired 5, eras 0, 2, 6: covered; want not")
	}
	if !cover.Covered(lived(3, 5), 5) {
		t.Error("born 3, retired 5, era 5: not covered; want covered")
	}
	if cover.Covered(lived(3, 5), 6) { // the fifth of the examples of the whole
		t.Error("born 3, retired 5, era 6: covered; want not")
	}
}

func TestCovered(t *testing.T) { // P6.1
	for _, x := range []struct {
		e    cover.Entry
		eras []uint64
		is   bool
	}{
		{lived(3, 5), nil, false},
		{lived(3, 5), []uint64{}, false},
		{lived(3, 5), []uint64{2}, false},
		{lived(3, 5), []uint64{3}, true},
		{lived(3, 5), []uint64{4}, true},
		{lived(3, 5), []uint64{5}, true},
		{lived(3, 5), []uint64{6}, false},
		{lived(3, 5), []uint64{2, 6}, false},
		{lived(3, 5), []uint64{6, 2}, false},
		{lived(3, 5), []uint64{4, 2, 6}, true},
		{lived(3, 5), []uint64{2, 4, 6}, true},
		{lived(3, 5), []uint64{2, 6, 4}, true},
		{lived(3, 5), []uint64{4, 0}, true},
		{lived(3, 5), []uint64{0, 4}, true},
		{lived(3, 5), []uint64{4, 4}, true},
		{lived(3, 5), []uint64{6, 6}, false},
		{lived(3, 5), []uint64{3, 5}, true},
		{lived(3, 5), []uint64{greatest}, false},
		{entry(0, 3, 5), []uint64{4}, true},
		{entry(greatest, 3, 5), []uint64{4}, true},
		{entry(greatest, 3, 5), []uint64{6}, false},
		{lived(4, 4), []uint64{3, 5}, false},
		{lived(4, 4), []uint64{4}, true},
	} {
		if g := cover.Covered(x.e, x.eras...); g != x.is {
			t.Errorf("Covered(%v, %v): %v; want %v", x.e, x.eras, g, x.is)
		}
	}
}

func TestCoveredByTheFirstAndTheGreatestEra(t *testing.T) { // P6.1
	for _, x := range []struct {
		e    cover.Entry
		eras []uint64
		is   bool
	}{
		{cover.Entry{}, nil, false},
		{cover.Entry{}, []uint64{0}, false},
		{cover.Entry{}, []uint64{0, 0}, false},
		{cover.Entry{}, []uint64{1}, false},
		{lived(0, 5), []uint64{0}, false},
		{lived(0, 5), []uint64{1}, true},
		{lived(0, 5), []uint64{0, 5}, true},
		{lived(0, 5), []uint64{6}, false},
		{lived(0, greatest), []uint64{0}, false},
		{lived(0, greatest), []uint64{1}, true},
		{lived(0, greatest), []uint64{greatest}, true},
		{lived(greatest, greatest), []uint64{greatest}, true},
		{lived(greatest, greatest), []uint64{greatest - 1}, false},
		{lived(greatest-1, greatest-1), []uint64{greatest}, false},
		{lived(1, greatest-1), []uint64{greatest}, false},
		{lived(1<<63-1, 1<<63), []uint64{1 << 63}, true},
		{lived(1<<63-1, 1<<63), []uint64{1<<63 - 1}, true},
		{lived(1, 1<<63-1), []uint64{1 << 63}, false},
		{lived(1<<63, greatest), []uint64{1<<63 - 1}, false},
	} {
		if g := cover.Covered(x.e, x.eras...); g != x.is {
			t.Errorf("Covered(%v, %v): %v; want %v", x.e, x.eras, g, x.is)
		}
	}
}

func TestBornAboveRetired(t *testing.T) { // P6.1
	for _, e := range []cover.Entry{lived(5, 3), lived(1, 0), lived(4, 3), lived(greatest, 0), lived(greatest, greatest-1)} {
		for _, eras := range eraLists() {
			if cover.Covered(e, eras...) {
				t.Errorf("Covered(%v, %v): true; want false", e, eras)
			}
		}
	}
}

func TestCoveredAtAllEdges(t *testing.T) { // P6.1
	for _, e := range edgeEntries() {
		for _, eras := range eraLists() {
			had := slices.Clone(eras)
			if g, want := cover.Covered(e, eras...), covered(e, eras); g != want {
				t.Errorf("Covered(%v, %v): %v; want %v", e, eras, g, want)
			}
			if !slices.Equal(eras, had) {
				t.Fatalf("Covered(%v, %v) left the eras %v", e, had, eras)
			}
		}
	}
}

func TestSplit(t *testing.T) { // P6.1
	a, b, c, d := entry(1, 3, 5), entry(2, 6, 9), entry(3, 1, 3), entry(4, 4, 4)
	for _, x := range []struct {
		l       []cover.Entry
		eras    []uint64
		in, out []cover.Entry
	}{
		{[]cover.Entry{a, b, c}, []uint64{3, 4}, []cover.Entry{a, c}, []cover.Entry{b}},
		{[]cover.Entry{a, b, c, d}, []uint64{3, 4, 7}, []cover.Entry{a, b, c, d}, nil},
		{[]cover.Entry{a, b, c, d}, []uint64{0, 10}, nil, []cover.Entry{a, b, c, d}},
		{[]cover.Entry{d, b, a, c}, []uint64{5, 2}, []cover.Entry{a, c}, []cover.Entry{d, b}},
		{[]cover.Entry{b, a, b, d, b, a}, []uint64{4}, []cover.Entry{a, d, a}, []cover.Entry{b, b, b}},
		{[]cover.Entry{a, b, a, b}, []uint64{9}, []cover.Entry{b, b}, []cover.Entry{a, a}},
		{[]cover.Entry{a, a, a}, []uint64{5, 5}, []cover.Entry{a, a, a}, nil},
		{[]cover.Entry{a, a, a}, []uint64{6, 6}, nil, []cover.Entry{a, a, a}},
		{[]cover.Entry{a}, []uint64{3}, []cover.Entry{a}, nil},
		{[]cover.Entry{a}, []uint64{2}, nil, []cover.Entry{a}},
		{[]cover.Entry{{}}, []uint64{0}, nil, []cover.Entry{{}}},
		{[]cover.Entry{entry(7, 0, greatest), entry(8, 5, 3)}, []uint64{4, greatest}, []cover.Entry{entry(7, 0, greatest)}, []cover.Entry{entry(8, 5, 3)}},
	} {
		wantSplit(t, x.l, x.eras, x.in, x.out)
	}
}

func TestSplitOfNothing(t *testing.T) { // P6.1
	l := []cover.Entry{entry(1, 3, 5), entry(2, 0, greatest), {}}
	for _, eras := range [][]uint64{nil, {}} {
		wantSplit(t, l, eras, nil, l)
		wantSplit(t, nil, eras, nil, nil)
		wantSplit(t, []cover.Entry{}, eras, nil, nil)
	}
	for _, eras := range [][]uint64{{0}, {4}, {4, 4}, {greatest}} {
		wantSplit(t, nil, eras, nil, nil)
		wantSplit(t, []cover.Entry{}, eras, nil, nil)
	}
	if in, out := cover.Split(l); len(in) != 0 || !slices.Equal(out, l) {
		t.Errorf("Split(%v): %v and %v", l, in, out)
	}
}

func TestSplitKeepsTheOrder(t *testing.T) { // P6.1
	l := append(edgeEntries(), edgeEntries()...)
	slices.Reverse(l[10:50])
	for _, eras := range eraLists() {
		var in, out []cover.Entry
		for _, e := range l {
			if covered(e, eras) {
				in = append(in, e)
			} else {
				out = append(out, e)
			}
		}
		wantSplit(t, l, eras, in, out)
	}
}

// scribble writes into all that l may reach, spare room behind its end included.
func scribble(l []cover.Entry) {
	l = l[:cap(l)]
	for i := range l {
		l[i] = entry(99, 99, 99)
	}
}

func TestSplitTellsListsOfTheCaller(t *testing.T) { // P6.1, R5, R6
	long := []cover.Entry{entry(1, 3, 5), entry(2, 6, 9), entry(3, 1, 4), entry(4, 7, 7), entry(5, 2, 8)}
	for _, eras := range [][]uint64{nil, {4}, {4, 7}, {10}} {
		whole := slices.Clone(long)
		in, out := cover.Split(whole[:4], eras...)
		keptOut := slices.Clone(out)
		scribble(in)
		if !slices.Equal(out, keptOut) {
			t.Errorf("eras %v: writing into the first list let the second have %v; want %v", eras, out, keptOut)
		}
		scribble(out)
		if !slices.Equal(whole, long) {
			t.Errorf("eras %v: writing into both lists let what was given have %v; want %v", eras, whole, long)
		}
	}
}

func TestSplitKeepsNothingOfWhatIsGiven(t *testing.T) { // P6.1, R6
	l, eras := []cover.Entry{entry(1, 3, 5), entry(2, 6, 9), entry(3, 1, 4)}, []uint64{4}
	in, out := cover.Split(l, eras...)
	scribble(l)
	eras[0] = 7
	if !slices.Equal(in, []cover.Entry{entry(1, 3, 5), entry(3, 1, 4)}) || !slices.Equal(out, []cover.Entry{entry(2, 6, 9)}) {
		t.Errorf("writing into what was given let the lists have %v and %v", in, out)
	}
}

func TestOldest(t *testing.T) { // P6.1
	for _, x := range []struct {
		births []uint64
		want   uint64
	}{
		{[]uint64{3}, 3},
		{[]uint64{0}, 0},
		{[]uint64{greatest}, greatest},
		{[]uint64{2, 5, 7}, 2},
		{[]uint64{5, 2, 7}, 2},
		{[]uint64{7, 5, 2}, 2},
		{[]uint64{2, 5, 2}, 2},
		{[]uint64{5, 2, 2, 7}, 2},
		{[]uint64{4, 4}, 4},
		{[]uint64{5, 0, 7}, 0},
		{[]uint64{greatest, greatest - 1}, greatest - 1},
		{[]uint64{greatest, greatest}, greatest},
		{[]uint64{1 << 63, 1<<63 - 1, greatest}, 1<<63 - 1},
	} {
		for _, retired := range []uint64{0, 1, 9, greatest} { // no Node and no Retired counts, be it below the Birth
			var l []cover.Entry
			for i, birth := range x.births {
				l = append(l, entry(uint64(i), birth, retired))
			}
			wantOldest(t, l, x.want, true)
		}
	}
	wantOldest(t, []cover.Entry{entry(9, 5, 8), entry(1, 7, 7), entry(5, 6, 6)}, 5, true)
}

func TestOldestOfNothing(t *testing.T) { // P6.1
	wantOldest(t, nil, 0, false)
	wantOldest(t, []cover.Entry{}, 0, false)
	wantOldest(t, []cover.Entry{lived(3, 5)}[:0], 0, false)
}

func TestEachEntryIsInOneOfBoth(t *testing.T) { // P6.2
	l := append(edgeEntries(), edgeEntries()[:20]...)
	want := map[cover.Entry]int{}
	for _, e := range l {
		want[e]++
	}
	for _, eras := range eraLists() {
		in, out := cover.Split(l, eras...)
		if len(in)+len(out) != len(l) {
			t.Errorf("eras %v: %d and %d entries of %d", eras, len(in), len(out), len(l))
		}
		got := map[cover.Entry]int{}
		for _, e := range in {
			got[e]++
			if !cover.Covered(e, eras...) {
				t.Errorf("eras %v: %v is not covered, and among those that are", eras, e)
			}
		}
		for _, e := range out {
			got[e]++
			if cover.Covered(e, eras...) {
				t.Errorf("eras %v: %v is covered, and among those that are not", eras, e)
			}
		}
		for e, n := range want {
			if got[e] != n {
				t.Errorf("eras %v: %v is told %d times; want %d", eras, e, got[e], n)
			}
		}
	}
}

func TestMoreErasCoverMore(t *testing.T) { // P6.2
	for _, e := range edgeEntries() {
		for _, eras := range eraLists() {
			if !cover.Covered(e, eras...) {
				continue
			}
			for _, era := range edgeEras() {
				behind, ahead := append(slices.Clone(eras), era), append([]uint64{era}, eras...)
				if !cover.Covered(e, behind...) || !cover.Covered(e, ahead...) {
					t.Errorf("%v is covered by %v, and not with %d beside", e, eras, era)
				}
			}
		}
	}
}

func TestWhatLivedAtNoneOfTheErasIsNotCovered(t *testing.T) { // P6.2
	for _, e := range edgeEntries() {
		for _, eras := range eraLists() {
			if len(eras) == 0 {
				continue
			}
			if e.Birth > slices.Max(eras) && cover.Covered(e, eras...) {
				t.Errorf("%v was born behind all of %v, and is covered", e, eras)
			}
			if e.Retired < slices.Min(eras) && cover.Covered(e, eras...) {
				t.Errorf("%v was retired ahead of all of %v, and is covered", e, eras)
			}
		}
	}
}
