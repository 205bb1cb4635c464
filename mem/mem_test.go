package mem_test

import (
	"math"
	"slices"
	"testing"

	"stepstone/api"
	"stepstone/bank"
	"stepstone/handle"
	"stepstone/mem"
	"stepstone/plan"
)

const allBits = uint64(1<<64 - 1)

func ordinary() api.Config {
	return api.Config{Threads: 2, Slots: 2, Cap: 3, Height: 2, Keep: 1, Every: 1, Last: 9}
}

func smallest() api.Config {
	return api.Config{Threads: 1, Slots: 1, Cap: 1, Height: 1, Keep: 1, Every: 1, Last: 0}
}

func greatest() api.Config {
	return api.Config{Threads: 8, Slots: 8, Cap: 64, Height: 6, Keep: 64, Every: 64, Last: 1<<30 - 1}
}

func uneven() api.Config {
	return api.Config{Threads: 3, Slots: 5, Cap: 7, Height: 4, Keep: 2, Every: 6, Last: 1}
}

// changed tells configurations like c, each with one part that is n.
func changed(c api.Config, n int) []api.Config {
	l := []api.Config{c, c, c, c, c, c, c}
	l[0].Threads, l[1].Slots, l[2].Cap, l[3].Height, l[4].Keep, l[5].Every, l[6].Last = n, n, n, n, n, n, n
	return l
}

func rightConfigs() []api.Config {
	l := []api.Config{ordinary(), smallest(), greatest(), uneven()}
	for _, c := range l[:2] {
		greater := c
		greater.Threads = 8
		l = append(l, greater)
		greater = c
		greater.Slots = 8
		l = append(l, greater)
		greater = c
		greater.Cap = 64
		l = append(l, greater)
		greater = c
		greater.Height = 6
		l = append(l, greater)
	}
	return append(l, changed(ordinary(), 1)...)
}

// wrongConfigs has one part that is wrong, in turn, in configurations that are right otherwise.
func wrongConfigs() []api.Config {
	l := []api.Config{{}}
	for _, c := range []api.Config{ordinary(), smallest(), greatest()} {
		for _, n := range []int{-1, math.MinInt, 1 << 30, 1 << 32, math.MaxInt} {
			l = append(l, changed(c, n)...)
		}
		l = append(l, changed(c, 0)[:6]...)
		l = append(l, changed(c, 9)[:2]...)
		l = append(l, changed(c, 7)[3])
		l = append(l, changed(c, 65)[:6]...)
	}
	return l
}

// The cells are worked out by the words of chapter 4, so that they don't err along with the package.

func length(c api.Config) int { return cellOf(c, c.Cap+1, 0) }

func reservation(c api.Config, thread, slot int) int { return 1 + thread*c.Slots + slot }

func cellOf(c api.Config, index, field int) int {
	return 1 + c.Threads*c.Slots + index*(6+c.Height) + field
}

func fresh(t *testing.T, c api.Config) *mem.Mem {
	t.Helper()
	m, e := mem.New(c)
	if e != api.OK || m == nil {
		t.Fatalf("New(%+v): error %d", c, e)
	}
	return m
}

func of(t *testing.T, c api.Config, cells []uint64) *mem.Mem {
	t.Helper()
	m, e := mem.Of(c, cells)
	if e != api.OK || m == nil {
		t.Fatalf("Of(%+v, %d cells): error %d", c, len(cells), e)
	}
	return m
}

// differing has cells that are all different, and none of which is 0.
func differing(c api.Config) []uint64 {
	l := make([]uint64, length(c))
	for i := range l {
		l[i] = uint64(1000 + 3*i)
	}
	return l
}

func named(t *testing.T, index, gen int, mark bool) uint64 {
	t.Helper()
	h, ok := handle.Pack(index, gen, mark)
	if !ok {
		t.Fatalf("no handle of index %d and generation %d", index, gen)
	}
	return h
}

func wantRefused(t *testing.T, what string, m *mem.Mem, e api.Errno) {
	t.Helper()
	if m != nil || e != api.ErrArg {
		t.Errorf("%s: error %d, and words: %v; want ErrArg and none", what, e, m != nil)
	}
}

// wantAccess holds what the last call did against what it should have done to a bank that had these cells: just one access.
func wantAccess(t *testing.T, what string, m *mem.Mem, had []uint64, count int, want bank.Access) {
	t.Helper()
	b := m.Bank()
	if b.Last() != want {
		t.Errorf("%s: last access %+v; want %+v", what, b.Last(), want)
	}
	if b.Count() != count+1 {
		t.Errorf("%s: %d accesses; want 1", what, b.Count()-count)
	}
	has := slices.Clone(had)
	if want.Cell >= 0 {
		has[want.Cell] = want.New
	}
	if !slices.Equal(b.Cells(), has) {
		t.Errorf("%s: cells %v; want %v", what, b.Cells(), has)
	}
}

// call is one of the calls that are an access, with what it is to do to a cell that had a word.
type call struct {
	name string
	do   func(m *mem.Mem) (uint64, bool)
	kind int
	via  uint64
	old  uint64 // what a Swap asks for
	v    uint64 // what is stored or added
}

func fieldCalls(h uint64, field int, old, v uint64) []call {
	via := h &^ (1 << 62)
	return []call{
		{"Load", func(m *mem.Mem) (uint64, bool) { return m.Load(h, field), true }, bank.Loads, via, 0, 0},
		{"Store", func(m *mem.Mem) (uint64, bool) { m.Store(h, field, v); return 0, true }, bank.Stores, via, 0, v},
		{"Swap", func(m *mem.Mem) (uint64, bool) { return 0, m.Swap(h, field, old, v) }, bank.Swaps, via, old, v},
		{"Add", func(m *mem.Mem) (uint64, bool) { return m.Add(h, field, v), true }, bank.Adds, via, 0, v},
	}
}

func metaCalls(index int, old, v uint64) []call {
	return []call{
		{"Meta", func(m *mem.Mem) (uint64, bool) { return m.Meta(index), true }, bank.Loads, 0, 0, 0},
		{"Take", func(m *mem.Mem) (uint64, bool) { return 0, m.Take(index, old, v) }, bank.Swaps, 0, old, v},
		{"Release", func(m *mem.Mem) (uint64, bool) { m.Release(index, v); return 0, true }, bank.Stores, 0, 0, v},
	}
}

func reservationCalls(thread, slot int, v uint64) []call {
	return []call{
		{"Reserve", func(m *mem.Mem) (uint64, bool) { m.Reserve(thread, slot, v); return 0, true }, bank.Stores, 0, 0, v},
		{"Reserved", func(m *mem.Mem) (uint64, bool) { return m.Reserved(thread, slot), true }, bank.Loads, 0, 0, 0},
	}
}

func clockCalls() []call {
	return []call{
		{"Clock", func(m *mem.Mem) (uint64, bool) { return m.Clock(), true }, bank.Loads, 0, 0, 0},
		{"Tick", func(m *mem.Mem) (uint64, bool) { return m.Tick(), true }, bank.Adds, 0, 0, 1},
	}
}

// told is what the call is to tell of a cell that had a word, and its access there.
func (x call) told(cell int, had uint64) (uint64, bool, bank.Access) {
	a := bank.Access{Kind: x.kind, Cell: cell, Via: x.via, Old: had, New: had, Done: true}
	switch x.kind {
	case bank.Stores:
		a.New = x.v
		return 0, true, a
	case bank.Swaps:
		a.Done = had == x.old
		if a.Done {
			a.New = x.v
		}
		return 0, a.Done, a
	case bank.Adds:
		a.New = had + x.v
	}
	return had, true, a
}

// wantDone makes the call, which is to be just one access of that cell.
func wantDone(t *testing.T, m *mem.Mem, x call, cell int) {
	t.Helper()
	had, count := m.Bank().Cells(), m.Bank().Count()
	n, ok, a := x.told(cell, had[cell])
	if gn, gok := x.do(m); gn != n || gok != ok {
		t.Errorf("%s of cell %d, which had %#x: %#x, %v; want %#x, %v", x.name, cell, had[cell], gn, gok, n, ok)
	}
	wantAccess(t, x.name, m, had, count, a)
}

// wantNowhere makes the call, which is to be just one access of the cell -1.
func wantNowhere(t *testing.T, m *mem.Mem, x call) {
	t.Helper()
	had, count := m.Bank().Cells(), m.Bank().Count()
	if n, ok := x.do(m); n != 0 || ok && x.kind == bank.Swaps {
		t.Errorf("%s of what there is not: %#x, %v", x.name, n, ok)
	}
	wantAccess(t, x.name, m, had, count, bank.Access{Kind: x.kind, Cell: -1, Via: x.via})
}

func TestExamples(t *testing.T) { // P5.2
	m := fresh(t, ordinary())
	for i, want := range []uint64{1, 1, 2} {
		ask := m.Clock
		if i == 1 {
			ask = m.Tick
		}
		if g := ask(); g != want {
			t.Errorf("call %d told %d; want %d", i, g, want)
		}
	}
}

func TestCellsOfNewWorlds(t *testing.T) { // P5.1
	for _, x := range []struct {
		c                api.Config
		cells            int
		meta, tall, high int
	}{
		{ordinary(), 37, 5, 9, 2},
		{smallest(), 16, 2, 6, 1},
		{greatest(), 845, 65, 69, 6},
		{uneven(), 96, 16, 20, 4},
	} {
		cells := fresh(t, x.c).Bank().Cells()
		if len(cells) != x.cells {
			t.Errorf("%+v: %d cells; want %d", x.c, len(cells), x.cells)
		}
		for cell, g := range cells {
			want := map[int]uint64{0: 1, x.meta: 1, x.tall: uint64(x.high)}[cell]
			if g != want {
				t.Errorf("%+v: the cell %d has %d; want %d", x.c, cell, g, want)
			}
		}
	}
}

func TestEveryCellOfEveryNewWorld(t *testing.T) { // P5.1
	for _, c := range rightConfigs() {
		m := fresh(t, c)
		want := make([]uint64, length(c))
		want[0], want[cellOf(c, 0, 0)], want[cellOf(c, 0, 4)] = 1, 1, uint64(c.Height)
		if g := m.Bank().Cells(); !slices.Equal(g, want) {
			t.Errorf("%+v: cells %v; want %v", c, g, want)
		}
		if b := m.Bank(); b.Count() != 0 || b.Last() != (bank.Access{}) {
			t.Errorf("%+v: a new world has had %d accesses, the last one %+v", c, b.Count(), b.Last())
		}
		if g := m.Config(); g != c {
			t.Errorf("Config() = %+v; want %+v", g, c)
		}
	}
}

func TestNewOfAConfigurationThatIsNotRight(t *testing.T) { // P5.1
	for _, c := range wrongConfigs() {
		m, e := mem.New(c)
		wantRefused(t, "New", m, e)
	}
}

func TestOfAConfigurationThatIsNotRight(t *testing.T) { // P5.1
	for _, c := range wrongConfigs() {
		// No cells are as many as plan.Len tells of such a configuration.
		for _, n := range []int{0, 1, 16, 37, 38, 845, length(c)} {
			if n < 0 || n > 1000 {
				continue
			}
			m, e := mem.Of(c, make([]uint64, n))
			wantRefused(t, "Of", m, e)
		}
		m, e := mem.Of(c, nil)
		wantRefused(t, "Of no cells", m, e)
	}
}

func TestOfJustAsManyCells(t *testing.T) { // P5.1
	for _, c := range rightConfigs() {
		for _, l := range [][]uint64{make([]uint64, length(c)), differing(c), slices.Repeat([]uint64{allBits}, length(c))} {
			m := of(t, c, l)
			if g := m.Bank().Cells(); !slices.Equal(g, l) {
				t.Errorf("%+v: cells %v; want %v", c, g, l)
			}
			if b := m.Bank(); b.Count() != 0 || b.Last() != (bank.Access{}) {
				t.Errorf("%+v: %d accesses, the last one %+v; want none", c, b.Count(), b.Last())
			}
			if g := m.Config(); g != c {
				t.Errorf("Config() = %+v; want %+v", g, c)
			}
		}
	}
}

func TestOfTooFewOrTooManyCells(t *testing.T) { // P5.1
	for _, c := range rightConfigs() {
		m, e := mem.Of(c, nil)
		wantRefused(t, "Of nil", m, e)
		for _, n := range []int{0, 1, length(c) - 1, length(c) + 1, 2 * length(c), 100001} {
			m, e := mem.Of(c, make([]uint64, n, n+length(c)))
			wantRefused(t, "Of too few or too many", m, e)
		}
	}
}

func TestWhatAWorldIsMadeOfIsTheCallers(t *testing.T) { // P5.1
	c := ordinary()
	l := differing(c)
	m := of(t, c, l)
	l[0], l[14] = 7, 8
	if g := m.Bank().Cells(); !slices.Equal(g, differing(c)) {
		t.Errorf("cells %v behind a write into what they were made of", g)
	}
	l = differing(c)
	m = of(t, c, l)
	m.Tick()
	m.Reserve(1, 1, 9)
	m.Store(plan.Head(), plan.Key, 9)
	if !slices.Equal(l, differing(c)) {
		t.Errorf("what the words were made of is %v", l)
	}
}

func TestConfigIsTheCallers(t *testing.T) { // P5.1
	c := ordinary()
	m := fresh(t, c)
	c.Cap, c.Height = 1, 1
	told := m.Config()
	told.Threads = 1
	if g := m.Config(); g != ordinary() {
		t.Errorf("Config() = %+v; want %+v", g, ordinary())
	}
	m.Reserve(1, 1, 9)
	if m.Reserved(1, 1) != 9 {
		t.Error("a thread is gone with a configuration that was told")
	}
}

func TestBankIsTheWordsThemselves(t *testing.T) { // P5.1
	m := fresh(t, ordinary())
	b := m.Bank()
	m.Tick()
	if b.Count() != 1 || b.Cells()[0] != 2 {
		t.Errorf("behind a Tick the bank has had %d accesses, and the clock is %d", b.Count(), b.Cells()[0])
	}
	b.Store(14, 3, 5)
	if g := m.Load(named(t, 1, 0, false), plan.Key); g != 5 {
		t.Errorf("Load = %d behind a Store of 5 into the bank", g)
	}
	if m.Bank() != b || b.Count() != 3 {
		t.Error("a world has more than one bank")
	}
}

func TestConfigAndBankAreNoAccess(t *testing.T) { // P5.1
	m := fresh(t, ordinary())
	m.Tick()
	last := m.Bank().Last()
	for range 3 {
		m.Config()
		m.Bank()
	}
	if b := m.Bank(); b.Count() != 1 || b.Last() != last {
		t.Errorf("%d accesses, the last one %+v", b.Count(), b.Last())
	}
}

func TestWorldsAreApart(t *testing.T) { // P5.1
	c := ordinary()
	a, b := fresh(t, c), fresh(t, c)
	a.Tick()
	a.Release(1, 5)
	if b.Bank().Count() != 0 || b.Clock() != 1 || b.Meta(1) != 0 {
		t.Error("what is done to one world is seen in another one")
	}
	l := differing(c)
	a, b = of(t, c, l), of(t, c, l)
	a.Tick()
	if !slices.Equal(b.Bank().Cells(), differing(c)) {
		t.Error("what is done to one world is seen in another one that was made of the same cells")
	}
}

func TestAccessesByHand(t *testing.T) { // P5.2
	m := fresh(t, ordinary())
	h := named(t, 3, 7, true)
	via := uint64(1<<63 | 7<<32 | 3)
	steps := []struct {
		do   func() uint64
		told uint64
		a    bank.Access
	}{
		{func() uint64 { m.Store(h, plan.Key, 5); return 0 }, 0, bank.Access{Kind: bank.Stores, Cell: 30, Via: via, New: 5, Done: true}},
		{func() uint64 { return m.Load(h, plan.Key) }, 5, bank.Access{Kind: bank.Loads, Cell: 30, Via: via, Old: 5, New: 5, Done: true}},
		{func() uint64 { return m.Add(h, plan.Next+1, 4) }, 0, bank.Access{Kind: bank.Adds, Cell: 36, Via: via, New: 4, Done: true}},
		{func() uint64 { return one(m.Swap(h, plan.Next+1, 4, 6)) }, 1, bank.Access{Kind: bank.Swaps, Cell: 36, Via: via, Old: 4, New: 6, Done: true}},
		{func() uint64 { return one(m.Swap(h, plan.Next+1, 4, 8)) }, 0, bank.Access{Kind: bank.Swaps, Cell: 36, Via: via, Old: 6, New: 6}},
		{func() uint64 { return m.Clock() }, 1, bank.Access{Kind: bank.Loads, Cell: 0, Old: 1, New: 1, Done: true}},
		{func() uint64 { return m.Tick() }, 1, bank.Access{Kind: bank.Adds, Cell: 0, Old: 1, New: 2, Done: true}},
		{func() uint64 { m.Reserve(1, 0, 9); return 0 }, 0, bank.Access{Kind: bank.Stores, Cell: 3, New: 9, Done: true}},
		{func() uint64 { return m.Reserved(1, 0) }, 9, bank.Access{Kind: bank.Loads, Cell: 3, Old: 9, New: 9, Done: true}},
		{func() uint64 { return m.Meta(0) }, 1, bank.Access{Kind: bank.Loads, Cell: 5, Old: 1, New: 1, Done: true}},
		{func() uint64 { return one(m.Take(3, 0, 13)) }, 1, bank.Access{Kind: bank.Swaps, Cell: 29, New: 13, Done: true}},
		{func() uint64 { return one(m.Take(3, 0, 17)) }, 0, bank.Access{Kind: bank.Swaps, Cell: 29, Old: 13, New: 13}},
		{func() uint64 { m.Release(3, 16); return 0 }, 0, bank.Access{Kind: bank.Stores, Cell: 29, Old: 13, New: 16, Done: true}},
	}
	for i, s := range steps {
		if g := s.do(); g != s.told {
			t.Errorf("step %d told %d; want %d", i, g, s.told)
		}
		if g := m.Bank().Last(); g != s.a || m.Bank().Count() != i+1 {
			t.Errorf("step %d: access %d is %+v; want %+v", i, m.Bank().Count(), g, s.a)
		}
	}
}

func one(yes bool) uint64 {
	if yes {
		return 1
	}
	return 0
}

func TestFields(t *testing.T) { // P5.2, P5.3
	for _, c := range rightConfigs() {
		m := of(t, c, differing(c))
		for _, index := range []int{0, 1, (c.Cap + 1) / 2, c.Cap} {
			for field := range 6 + c.Height {
				cell := cellOf(c, index, field)
				h := named(t, index, 5, field%2 == 0)
				has := m.Bank().Cells()[cell]
				for _, old := range []uint64{has, has + 1, 0} {
					for _, x := range fieldCalls(h, field, old, 77) {
						wantDone(t, m, x, cell)
					}
				}
			}
		}
	}
}

func TestEveryFieldOfEverySlot(t *testing.T) { // P5.2, P5.3
	for _, c := range []api.Config{ordinary(), smallest(), greatest()} {
		cells := differing(c)
		m := of(t, c, cells)
		for index := range c.Cap + 1 {
			h := named(t, index, 0, false)
			for field := range 6 + c.Height {
				if g := m.Load(h, field); g != cells[cellOf(c, index, field)] {
					t.Errorf("%+v: the field %d of the slot %d has %d", c, field, index, g)
				}
			}
		}
	}
}

func TestSwapAndTakeThatFindWhatTheyAskFor(t *testing.T) { // P5.2
	for _, had := range []uint64{0, 1, 13, 1 << 63, allBits} {
		for _, old := range []uint64{had, had ^ 1, had ^ 1<<62, had ^ 1<<63, had + 1} {
			for _, v := range []uint64{0, had, old, 9, allBits} {
				c := ordinary()
				cells := differing(c)
				cells[cellOf(c, 2, plan.Meta)], cells[cellOf(c, 2, plan.Value)] = had, had
				m := of(t, c, cells)
				wantDone(t, m, fieldCalls(named(t, 2, 1, false), plan.Value, old, v)[2], cellOf(c, 2, plan.Value))
				wantDone(t, m, metaCalls(2, old, v)[1], cellOf(c, 2, plan.Meta))
			}
		}
	}
}

func TestAddGoesRound(t *testing.T) { // P5.2
	h := named(t, 1, 0, false)
	for _, x := range []struct{ had, by, has uint64 }{
		{allBits, 1, 0},
		{allBits, allBits, allBits - 1},
		{5, allBits, 4},
		{1 << 63, 1 << 63, 0},
		{0, 0, 0},
		{allBits - 1, 1, allBits},
	} {
		m := fresh(t, ordinary())
		m.Store(h, plan.Owners, x.had)
		if g := m.Add(h, plan.Owners, x.by); g != x.had {
			t.Errorf("Add(%#x) = %#x; want %#x", x.by, g, x.had)
		}
		if g := m.Load(h, plan.Owners); g != x.has {
			t.Errorf("%#x and %#x are %#x; want %#x", x.had, x.by, g, x.has)
		}
	}
}

func TestClock(t *testing.T) { // P5.2
	for _, c := range rightConfigs() {
		for _, era := range []uint64{0, 1, 9, 1<<63 - 1, allBits - 1, allBits} {
			cells := differing(c)
			cells[0] = era
			m := of(t, c, cells)
			for range 2 {
				for _, x := range clockCalls() {
					wantDone(t, m, x, 0)
				}
			}
			if g := m.Clock(); g != era+2 {
				t.Errorf("behind two Ticks from %d on the clock is %d", era, g)
			}
		}
	}
}

func TestReservations(t *testing.T) { // P5.2, P5.3
	for _, c := range rightConfigs() {
		m := of(t, c, differing(c))
		for thread := range c.Threads {
			for slot := range c.Slots {
				for _, era := range []uint64{7, 0, allBits} {
					for _, x := range reservationCalls(thread, slot, era) {
						wantDone(t, m, x, reservation(c, thread, slot))
					}
				}
			}
		}
	}
}

func TestMetaOfSlots(t *testing.T) { // P5.2, P5.3
	for _, c := range rightConfigs() {
		m := of(t, c, differing(c))
		for index := range c.Cap + 1 {
			cell := cellOf(c, index, 0)
			for _, old := range []uint64{5, m.Bank().Cells()[cell], 0} {
				for _, x := range metaCalls(index, old, 16) {
					wantDone(t, m, x, cell)
				}
			}
		}
	}
}

func TestMetaIsTheFieldMeta(t *testing.T) { // P5.2
	m := fresh(t, ordinary())
	h := named(t, 2, 3, false)
	m.Store(h, plan.Meta, 13)
	if g := m.Meta(2); g != 13 {
		t.Errorf("Meta = %d; want 13", g)
	}
	if !m.Take(2, 13, 17) || m.Load(h, plan.Meta) != 17 {
		t.Errorf("the field Meta has %d behind a Take of 17", m.Load(h, plan.Meta))
	}
	m.Release(2, 20)
	if g := m.Load(h, plan.Meta); g != 20 {
		t.Errorf("the field Meta has %d behind a Release of 20", g)
	}
}

func TestNoSuchField(t *testing.T) { // P5.2
	for _, c := range rightConfigs() {
		m := of(t, c, differing(c))
		for _, index := range []int{0, 1, c.Cap} {
			h := named(t, index, 2, index > 0)
			for _, field := range []int{-1, -2, -6 - c.Height, 6 + c.Height, 7 + c.Height, 2 * (6 + c.Height), math.MinInt, math.MaxInt, 1 << 32, 1 << 61, 1 << 62} {
				for _, x := range append(fieldCalls(h, field, 0, 9), fieldCalls(h, field, 0, 0)...) {
					wantNowhere(t, m, x)
				}
			}
		}
	}
}

func TestHandleOfNoSlot(t *testing.T) { // P5.2
	for _, c := range rightConfigs() {
		m := of(t, c, differing(c))
		for _, index := range []int{c.Cap + 1, c.Cap + 2, 65, 1000, 1 << 31, 1<<32 - 1} {
			for _, h := range []uint64{named(t, index, 0, false), named(t, index, api.MaxLast, true), uint64(index), uint64(index) | 1<<62} {
				for _, field := range []int{0, plan.Key, plan.Next, 5 + c.Height, -1, 6 + c.Height, -6 - c.Height} {
					for _, x := range append(fieldCalls(h, field, 0, 9), fieldCalls(h, field, 0, 0)...) {
						wantNowhere(t, m, x)
					}
				}
			}
		}
	}
}

func TestNoSuchSlot(t *testing.T) { // P5.2
	for _, c := range rightConfigs() {
		m := of(t, c, differing(c))
		for _, index := range []int{-1, -2, c.Cap + 1, c.Cap + 2, 65, 1 << 32, 1<<32 + 1, 1 << 61, 1 << 62, math.MinInt, math.MaxInt} {
			for _, x := range append(metaCalls(index, 0, 9), metaCalls(index, 0, 0)...) {
				wantNowhere(t, m, x)
			}
		}
	}
}

func TestNoSuchReservation(t *testing.T) { // P5.2
	for _, c := range rightConfigs() {
		m := of(t, c, differing(c))
		wrong := []int{-1, -2, 8, 9, 1 << 32, 1<<32 + 1, 1 << 61, 1 << 62, math.MinInt, math.MaxInt}
		for _, n := range append(wrong, c.Threads, c.Threads+1) {
			for _, slot := range []int{0, c.Slots - 1, c.Slots, -1, n} {
				for _, x := range reservationCalls(n, slot, 9) {
					wantNowhere(t, m, x)
				}
			}
		}
		for _, n := range append(wrong, c.Slots, c.Slots+1) {
			for _, thread := range []int{0, c.Threads - 1, c.Threads, -1, n} {
				for _, x := range reservationCalls(thread, n, 9) {
					wantNowhere(t, m, x)
				}
			}
		}
	}
}

// words has all kinds of words of one index: they name a node or not, are marked or not, and have any generation.
func words(index uint64) []uint64 {
	var l []uint64
	for _, gen := range []uint64{0, 1, 7, 1<<29 + 5, api.MaxLast} {
		for top := range uint64(4) {
			l = append(l, top<<62|gen<<32|index)
		}
	}
	return l
}

func TestTheFieldIsTheSameWhateverTheGenerationAndTheMark(t *testing.T) { // P5.3
	for _, c := range []api.Config{ordinary(), smallest(), greatest()} {
		for _, index := range []int{0, 1, c.Cap} {
			m := of(t, c, differing(c))
			for i, h := range words(uint64(index)) {
				for _, field := range []int{plan.Meta, plan.Key, plan.Owners, plan.Next, 5 + c.Height} {
					cell := cellOf(c, index, field)
					has := m.Bank().Cells()[cell]
					for _, x := range fieldCalls(h, field, has+1, uint64(i)) {
						wantDone(t, m, x, cell)
					}
				}
			}
		}
	}
}

func TestAWordThatNamesNoNode(t *testing.T) { // P5.2
	m := fresh(t, ordinary())
	for _, x := range fieldCalls(0, plan.Tall, 2, 3) {
		wantDone(t, m, x, 9)
	}
	for _, x := range fieldCalls(2, plan.Key, 2, 3) {
		wantDone(t, m, x, 22)
	}
	for _, x := range fieldCalls(allBits, plan.Key, 0, 3) {
		wantNowhere(t, m, x)
	}
}

// A long row of calls is held against a list that is changed by the words of the document.
func TestManyCalls(t *testing.T) { // P5.2, P5.3
	for _, c := range []api.Config{ordinary(), smallest(), uneven()} {
		m := of(t, c, differing(c))
		w := uint64(1)
		next := func(n int) int {
			w = w*6364136223846793005 + 1442695040888963407
			return int(w >> 33 % uint64(n))
		}
		for range 5000 {
			x, cell := anyCall(c, next)
			if cell < 0 {
				wantNowhere(t, m, x)
			} else {
				wantDone(t, m, x, cell)
			}
			if t.Failed() {
				t.FailNow()
			}
		}
	}
}

// anyCall tells some call, and the cell of which it is an access, -1 if there is none.
func anyCall(c api.Config, next func(n int) int) (call, int) {
	old, v := uint64(next(3)), uint64(next(3))
	index, field := next(c.Cap+2), next(8+c.Height)-1
	thread, slot := next(c.Threads+2)-1, next(c.Slots+2)-1
	switch next(4) {
	case 0:
		return clockCalls()[next(2)], 0
	case 1:
		if thread < 0 || thread >= c.Threads || slot < 0 || slot >= c.Slots {
			return reservationCalls(thread, slot, v)[next(2)], -1
		}
		return reservationCalls(thread, slot, v)[next(2)], reservation(c, thread, slot)
	case 2:
		if index > c.Cap {
			return metaCalls(index, old, v)[next(3)], -1
		}
		return metaCalls(index, old, v)[next(3)], cellOf(c, index, 0)
	}
	h := words(uint64(index))[next(20)]
	if index > c.Cap || field < 0 || field >= 6+c.Height {
		return fieldCalls(h, field, old, v)[next(4)], -1
	}
	return fieldCalls(h, field, old, v)[next(4)], cellOf(c, index, field)
}
