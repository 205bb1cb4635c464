package bank_test

import (
	"math"
	"slices"
	"testing"

	"stepstone/bank"
)

const (
	allBits   = uint64(1<<64 - 1)
	mostCells = 100000
)

// kinds has each kind of access as a call that works with the same arguments.
func kinds() map[int]func(b *bank.Bank, cell int, via, old, v uint64) {
	return map[int]func(b *bank.Bank, cell int, via, old, v uint64){
		bank.Loads:  func(b *bank.Bank, cell int, via, old, v uint64) { b.Load(cell, via) },
		bank.Stores: func(b *bank.Bank, cell int, via, old, v uint64) { b.Store(cell, via, v) },
		bank.Swaps:  func(b *bank.Bank, cell int, via, old, v uint64) { b.Swap(cell, via, old, v) },
		bank.Adds:   func(b *bank.Bank, cell int, via, old, v uint64) { b.Add(cell, via, v) },
	}
}

// wrongCells has cells that a bank of n does not have.
func wrongCells(n int) []int {
	return []int{-1, -2, -n, -n - 1, n, n + 1, 2*n + 1, mostCells, mostCells + 1, -1 << 32, 1 << 32, 1<<32 + 1, 1 << 62, math.MinInt, math.MinInt + 1, math.MaxInt}
}

func words() []uint64 {
	return []uint64{0, 1, 2, 5, 7, 1<<32 - 1, 1 << 32, 1<<63 - 1, 1 << 63, 1<<63 + 1, allBits - 1, allBits}
}

func wantCells(t *testing.T, b *bank.Bank, want ...uint64) {
	t.Helper()
	if g := b.Cells(); !slices.Equal(g, want) {
		t.Errorf("cells %v; want %v", g, want)
	}
}

func wantLast(t *testing.T, b *bank.Bank, want bank.Access) {
	t.Helper()
	if g := b.Last(); g != want {
		t.Errorf("last access %+v; want %+v", g, want)
	}
}

func wantCount(t *testing.T, b *bank.Bank, want int) {
	t.Helper()
	if g := b.Count(); g != want {
		t.Errorf("%d accesses; want %d", g, want)
	}
}

func TestKindsAreCounted(t *testing.T) { // P3.2
	if bank.Loads != 1 || bank.Stores != 2 || bank.Swaps != 3 || bank.Adds != 4 {
		t.Error(bank.Loads, bank.Stores, bank.Swaps, bank.Adds)
	}
}

func TestNewHasSoManyCellsThatAreZero(t *testing.T) { // P3.2
	for _, x := range []struct{ n, cells int }{
		{0, 0},
		{1, 1},
		{2, 2},
		{37, 37},
		{mostCells - 1, mostCells - 1},
		{mostCells, mostCells},
		{mostCells + 1, mostCells},
		{1 << 32, mostCells},
		{1<<32 + 1, mostCells},
		{math.MaxInt, mostCells},
		{-1, 0},
		{-2, 0},
		{-mostCells, 0},
		{-1 << 32, 0},
		{math.MinInt, 0},
		{math.MinInt + 1, 0},
	} {
		g := bank.New(x.n).Cells()
		if len(g) != x.cells {
			t.Errorf("New(%d) has %d cells; want %d", x.n, len(g), x.cells)
		}
		if slices.ContainsFunc(g, func(w uint64) bool { return w != 0 }) {
			t.Errorf("New(%d) has a cell that is not 0", x.n)
		}
	}
}

func TestOfHasTheseCells(t *testing.T) { // P3.2
	for _, l := range [][]uint64{nil, {}, {0}, {7}, {0, 0}, {1, 2, 3}, words(), make([]uint64, mostCells+1)} {
		b := bank.Of(l)
		if g := b.Cells(); !slices.Equal(g, l) {
			t.Errorf("Of %d cells has %d of them, or other ones", len(l), len(g))
		}
		wantCount(t, b, 0)
		wantLast(t, b, bank.Access{})
	}
}

func TestOfHasNoCellBeyondThese(t *testing.T) { // P3.1
	b := bank.Of([]uint64{1, 2, 3, 4}[:2])
	b.Store(2, 0, 9)
	if g := b.Load(2, 0); g != 0 {
		t.Errorf("a cell behind the last one has %d", g)
	}
	wantCells(t, b, 1, 2)
}

func TestBankWithoutAccess(t *testing.T) { // P3.2
	for _, b := range []*bank.Bank{bank.New(-1), bank.New(0), bank.New(3), bank.Of(nil), bank.Of([]uint64{7})} {
		wantCount(t, b, 0)
		wantLast(t, b, bank.Access{})
	}
}

func TestExamples(t *testing.T) { // P3.1
	b := bank.New(2)
	if g := b.Add(1, 0, 5); g != 0 {
		t.Errorf("Add told %d; want 0", g)
	}
	if !b.Swap(1, 0, 5, 7) {
		t.Error("Swap told false")
	}
	if g := b.Load(1, 0); g != 7 {
		t.Errorf("Load told %d; want 7", g)
	}
	if b.Swap(1, 0, 5, 9) {
		t.Error("Swap told true")
	}
	if g := b.Load(2, 0); g != 0 {
		t.Errorf("Load told %d; want 0", g)
	}
	wantCount(t, b, 5)
}

func TestLoadTellsWhatTheCellHas(t *testing.T) { // P3.1
	b := bank.Of(words())
	for cell, w := range words() {
		if g := b.Load(cell, 3); g != w {
			t.Errorf("Load(%d) = %#x; want %#x", cell, g, w)
		}
		wantLast(t, b, bank.Access{Kind: bank.Loads, Cell: cell, Via: 3, Old: w, New: w, Done: true})
		wantCount(t, b, cell+1)
	}
	wantCells(t, b, words()...)
}

func TestStoreLetsTheCellHaveTheWord(t *testing.T) { // P3.1
	for _, had := range words() {
		for _, v := range words() {
			b := bank.Of([]uint64{had})
			b.Store(0, 4, v)
			wantLast(t, b, bank.Access{Kind: bank.Stores, Via: 4, Old: had, New: v, Done: true})
			wantCells(t, b, v)
			wantCount(t, b, 1)
			if g := b.Load(0, 0); g != v {
				t.Errorf("Load = %#x behind a Store of %#x", g, v)
			}
		}
	}
}

func TestSwapChangesTheCellIfItHasWhatIsAskedFor(t *testing.T) { // P3.1
	for _, had := range words() {
		for _, old := range words() {
			for _, v := range words() {
				b := bank.Of([]uint64{had})
				has, done := had, had == old
				if done {
					has = v
				}
				if g := b.Swap(0, 5, old, v); g != done {
					t.Errorf("Swap from %#x to %#x of a cell that had %#x: %v", old, v, had, g)
				}
				wantLast(t, b, bank.Access{Kind: bank.Swaps, Via: 5, Old: had, New: has, Done: done})
				wantCells(t, b, has)
				wantCount(t, b, 1)
			}
		}
	}
}

func TestSwapThatStoresWhatItAskedFor(t *testing.T) { // P3.1
	b := bank.Of([]uint64{7})
	if !b.Swap(0, 1, 7, 7) {
		t.Error("Swap from 7 to 7 of a cell that had 7 told false")
	}
	wantLast(t, b, bank.Access{Kind: bank.Swaps, Via: 1, Old: 7, New: 7, Done: true})
	if b.Swap(0, 1, 8, 7) {
		t.Error("Swap from 8 to 7 of a cell that had 7 told true")
	}
	wantLast(t, b, bank.Access{Kind: bank.Swaps, Via: 1, Old: 7, New: 7})
	if b.Swap(0, 1, 8, 8) {
		t.Error("Swap from 8 to 8 of a cell that had 7 told true")
	}
	wantLast(t, b, bank.Access{Kind: bank.Swaps, Via: 1, Old: 7, New: 7})
	wantCells(t, b, 7)
	wantCount(t, b, 3)
}

func TestAddTellsWhatTheCellHad(t *testing.T) { // P3.1
	for _, x := range []struct{ had, by, has uint64 }{
		{0, 0, 0},
		{0, 5, 5},
		{5, 0, 5},
		{5, 7, 12},
		{1<<32 - 1, 1, 1 << 32},
		{1<<63 - 1, 1, 1 << 63},
		{allBits - 1, 1, allBits},
		{allBits, 1, 0},
		{1, allBits, 0},
		{5, allBits, 4},
		{allBits, 2, 1},
		{1 << 63, 1 << 63, 0},
		{allBits, allBits, allBits - 1},
	} {
		b := bank.Of([]uint64{x.had})
		if g := b.Add(0, 6, x.by); g != x.had {
			t.Errorf("Add(%#x) = %#x; want %#x", x.by, g, x.had)
		}
		wantLast(t, b, bank.Access{Kind: bank.Adds, Via: 6, Old: x.had, New: x.has, Done: true})
		wantCells(t, b, x.has)
		wantCount(t, b, 1)
	}
}

func TestNoSuchCell(t *testing.T) { // P3.1, P3.2
	for _, l := range [][]uint64{nil, {7}, {7, 8, 9}} {
		b := bank.Of(l)
		n := 0
		for _, cell := range wrongCells(len(l)) {
			for _, via := range []uint64{0, 3, allBits} {
				if g := b.Load(cell, via); g != 0 {
					t.Errorf("Load(%d) = %d; want 0", cell, g)
				}
				wantLast(t, b, bank.Access{Kind: bank.Loads, Cell: cell, Via: via})
				b.Store(cell, via, 4)
				wantLast(t, b, bank.Access{Kind: bank.Stores, Cell: cell, Via: via})
				if b.Swap(cell, via, 7, 4) || b.Swap(cell, via, 0, 4) || b.Swap(cell, via, 0, 0) {
					t.Errorf("Swap(%d) told true", cell)
				}
				wantLast(t, b, bank.Access{Kind: bank.Swaps, Cell: cell, Via: via})
				if g := b.Add(cell, via, 4); g != 0 {
					t.Errorf("Add(%d) = %d; want 0", cell, g)
				}
				wantLast(t, b, bank.Access{Kind: bank.Adds, Cell: cell, Via: via})
				n += 6
				wantCount(t, b, n)
				wantCells(t, b, l...)
			}
		}
	}
}

func TestFirstAndLastCell(t *testing.T) { // P3.1
	b := bank.New(mostCells + 1)
	for _, cell := range []int{0, mostCells - 1} {
		b.Store(cell, 0, 5)
		if !b.Swap(cell, 0, 5, 7) || b.Add(cell, 0, 1) != 7 || b.Load(cell, 0) != 8 {
			t.Errorf("the cell %d has %d", cell, b.Load(cell, 0))
		}
	}
	b.Store(mostCells, 0, 5)
	if g := b.Load(mostCells, 0); g != 0 {
		t.Errorf("a cell behind the last one has %d", g)
	}
	if c := b.Cells(); len(c) != mostCells || c[0] != 8 || c[mostCells-1] != 8 {
		t.Error("the first or the last cell is not told")
	}
}

func TestEveryAccessCountsAndIsTheLast(t *testing.T) { // P3.2
	b := bank.New(2)
	n := 0
	for _, via := range words() {
		for kind, call := range kinds() {
			for _, cell := range []int{0, 1, -1, 2} {
				call(b, cell, via, allBits, 1)
				n++
				wantCount(t, b, n)
				if g := b.Last(); g.Kind != kind || g.Cell != cell || g.Via != via {
					t.Errorf("kind %d, cell %d, via %#x: last access %+v", kind, cell, via, g)
				}
			}
		}
	}
}

func TestViaSaysNothingMore(t *testing.T) { // P3.2
	for kind, call := range kinds() {
		for _, via := range words() {
			b := bank.Of([]uint64{3, 4})
			call(b, 1, via, 4, 9)
			other := bank.Of([]uint64{3, 4})
			call(other, 1, 0, 4, 9)
			wantCells(t, b, other.Cells()...)
			want := other.Last()
			want.Via = via
			wantLast(t, b, want)
			if kind != want.Kind {
				t.Errorf("kind %d; want %d", want.Kind, kind)
			}
		}
	}
}

func TestWhatTellsIsNoAccess(t *testing.T) { // P3.2
	b := bank.Of([]uint64{3, 4})
	b.Add(1, 2, 5)
	for range 3 {
		wantCells(t, b, 3, 9)
		wantCount(t, b, 1)
		wantLast(t, b, bank.Access{Kind: bank.Adds, Cell: 1, Via: 2, Old: 4, New: 9, Done: true})
	}
}

func TestWhatIsToldIsTheCallers(t *testing.T) { // P3.2
	l := []uint64{1, 2}
	b := bank.Of(l)
	l[0] = 9
	wantCells(t, b, 1, 2)
	if g := b.Load(0, 0); g != 1 {
		t.Errorf("Load = %d behind a write into what the bank was made of", g)
	}
	c := b.Cells()
	c[1] = 9
	_ = append(c[:1], 8)
	wantCells(t, b, 1, 2)
	if g := b.Load(1, 0); g != 2 {
		t.Errorf("Load = %d behind a write into what the bank told", g)
	}
	told := b.Last()
	told.Old = 9
	wantLast(t, b, bank.Access{Kind: bank.Loads, Cell: 1, Old: 2, New: 2, Done: true})
}

func TestAccessesChangeNothingThatWasGivenOrTold(t *testing.T) { // P3.2
	l := []uint64{1, 2, 3}
	b := bank.Of(l[:2])
	c, last := b.Cells(), b.Last()
	b.Store(0, 0, 9)
	b.Add(1, 0, 9)
	if !slices.Equal(l, []uint64{1, 2, 3}) {
		t.Errorf("what the bank was made of is %v", l)
	}
	if !slices.Equal(c, []uint64{1, 2}) || last != (bank.Access{}) {
		t.Errorf("what the bank told is %v, %+v", c, last)
	}
}

func TestBanksAreApart(t *testing.T) { // P3.2
	l := []uint64{1, 2}
	a, b := bank.Of(l), bank.Of(l)
	a.Store(0, 0, 9)
	wantCells(t, b, 1, 2)
	wantCount(t, b, 0)
	wantLast(t, b, bank.Access{})
}

func TestAccessChangesNoOtherCell(t *testing.T) { // P3.3
	for _, l := range [][]uint64{{0, 0, 0, 0}, {3, 4, 5, 6}, {allBits, allBits, allBits, allBits}} {
		for _, call := range kinds() {
			for cell := range l {
				for _, old := range []uint64{l[cell], l[cell] + 1} {
					b := bank.Of(l)
					call(b, cell, 1, old, 9)
					want := slices.Clone(l)
					want[cell] = b.Last().New
					wantCells(t, b, want...)
				}
			}
		}
	}
}

func TestLoadAndSwapThatTellsFalseChangeNone(t *testing.T) { // P3.3
	l := []uint64{3, 4, 5}
	b := bank.Of(l)
	for cell, w := range l {
		b.Load(cell, 1)
		wantCells(t, b, l...)
		for _, old := range []uint64{w + 1, w - 1, 0, allBits, w | 1<<63} {
			if b.Swap(cell, 1, old, 9) {
				t.Errorf("Swap(%d) from %#x told true", cell, old)
			}
			wantCells(t, b, l...)
		}
	}
}

// The accesses of a long row are held against a list that is changed by the words of the document.
func TestManyAccesses(t *testing.T) { // P3.1, P3.2, P3.3
	const n = 5
	b, cells := bank.New(n), make([]uint64, n)
	w := uint64(1)
	for i := range 20000 {
		w = w*6364136223846793005 + 1442695040888963407
		cell, via, old, v := int(w>>33%(n+2))-1, w>>7, w>>40%4, w>>50%4
		a := bank.Access{Kind: int(w>>60%4) + 1, Cell: cell, Via: via}
		if cell >= 0 && cell < n {
			a.Old, a.Done = cells[cell], a.Kind != bank.Swaps || cells[cell] == old
			switch {
			case a.Kind == bank.Adds:
				cells[cell] += v
			case a.Kind != bank.Loads && a.Done:
				cells[cell] = v
			}
			a.New = cells[cell]
		}
		kinds()[a.Kind](b, cell, via, old, v)
		wantLast(t, b, a)
		wantCount(t, b, i+1)
		wantCells(t, b, cells...)
		if t.Failed() {
			t.FailNow()
		}
	}
}
