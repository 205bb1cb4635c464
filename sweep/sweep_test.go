package sweep_test

import (
	"fmt"
	"math"
	"slices"
	"testing"

	"stepstone/api"
	"stepstone/bank"
	"stepstone/claim"
	"stepstone/cover"
	"stepstone/guard"
	"stepstone/mem"
	"stepstone/sweep"
)

// The states, as chapter 2 counts them.
const (
	free = iota
	taken
	out
)

const (
	greatestWord = uint64(math.MaxUint64)
	maxLast      = 1<<30 - 1
	mark         = uint64(1) << 62
	head         = uint64(1) << 63 // index 0, generation 0
)

// Words, handles and cells are worked out by the words of chapters 1, 2 and 4, so that they don't err along with the packages.

func word(state, gen int) uint64 { return uint64(gen)<<2 | uint64(state) }

func named(index, gen int) uint64 { return 1<<63 | uint64(gen)<<32 | uint64(index) }

// afterwards tells the word of a slot that is let go of.
func afterwards(gen, last int) uint64 {
	if gen >= last {
		return word(out, last)
	}
	return word(free, gen+1)
}

// reservation tells the cell of a thread's reservation, -1 if there is none.
func reservation(c api.Config, thread, slot int) int {
	if thread < 0 || thread >= c.Threads || slot >= c.Slots {
		return -1
	}
	return 1 + thread*c.Slots + slot
}

// metaCell tells the cell of the word of the slot of h's index, -1 if there is none.
func metaCell(c api.Config, h uint64) int {
	index := int(uint32(h))
	if index > c.Cap {
		return -1
	}
	return 1 + c.Threads*c.Slots + index*(6+c.Height)
}

func genOf(h uint64) int { return int(h >> 32 & maxLast) }

const height = 2

func config(threads, slots, most, keep, last int) api.Config {
	return api.Config{Threads: threads, Slots: slots, Cap: most, Height: height, Keep: keep, Every: 1, Last: last}
}

// worldOf has all slots taken, in the generation that node says, and these eras in its reservations, those of thread 0 first.
func worldOf(t *testing.T, c api.Config, eras ...uint64) *mem.Mem {
	t.Helper()
	m, e := mem.New(c)
	if e != api.OK {
		t.Fatalf("New(%+v): error %d", c, e)
	}
	cells := m.Bank().Cells()
	copy(cells[1:1+c.Threads*c.Slots], eras)
	for index := 1; index <= c.Cap; index++ {
		cells[metaCell(c, node(index))] = word(taken, genOf(node(index)))
	}
	return worldWith(t, c, cells)
}

// node lets the nodes be of several generations.
func node(index int) uint64 { return named(index, index%3) }

func worldWith(t *testing.T, c api.Config, cells []uint64) *mem.Mem {
	t.Helper()
	m, e := mem.Of(c, cells)
	if e != api.OK {
		t.Fatalf("Of(%+v): error %d", c, e)
	}
	return m
}

// has tells what a cell has without an access, 0 of one that there is not.
func has(m *mem.Mem, cell int) uint64 {
	if cell < 0 {
		return 0
	}
	return m.Bank().Cells()[cell]
}

func meta(m *mem.Mem, h uint64) uint64 { return has(m, metaCell(m.Config(), h)) }

func loading(m *mem.Mem, cell int) bank.Access {
	w := has(m, cell)
	return bank.Access{Kind: bank.Loads, Cell: cell, Old: w, New: w, Done: cell >= 0}
}

func storing(m *mem.Mem, cell int, w uint64) bank.Access {
	a := bank.Access{Kind: bank.Stores, Cell: cell, Old: has(m, cell), New: w, Done: true}
	if cell < 0 {
		a.New, a.Done = 0, false
	}
	return a
}

// wantAccess does something that is to be just that one access of the world.
func wantAccess(t *testing.T, what any, m *mem.Mem, want bank.Access, do func()) {
	t.Helper()
	had, count := m.Bank().Cells(), m.Bank().Count()
	do()
	if n := m.Bank().Count() - count; n != 1 {
		t.Fatalf("%v: %d accesses; want 1", what, n)
	}
	if a := m.Bank().Last(); a != want {
		t.Fatalf("%v: the access %+v; want %+v", what, a, want)
	}
	if want.Cell >= 0 {
		had[want.Cell] = want.New
	}
	if cells := m.Bank().Cells(); !slices.Equal(cells, had) {
		t.Fatalf("%v: cells %v; want %v", what, cells, had)
	}
}

// What comes next, by the words of the chapter.
const (
	clears = "clear"
	looks  = "look"
	frees  = "free"
	over   = "over"
)

// covered is that of chapter 6, worked out by its words.
func covered(e cover.Entry, eras []uint64) bool {
	return slices.ContainsFunc(eras, func(era uint64) bool { return era != 0 && e.Birth <= era && era <= e.Retired })
}

// watched is a sweep with its guard, and what it should do and tell by the words of the chapter.
type watched struct {
	sweep  *sweep.Sweep
	guard  *guard.Guard
	thread int
	l      []cover.Entry // what New was given
	next   string
	at     int // how many Steps of that kind there were
	kept   []cover.Entry
	others []cover.Entry
	seen   []uint64
	latest uint64
	given  []cover.Entry // a copy of l
}

func watch(t *testing.T, m *mem.Mem, thread int, l ...cover.Entry) *watched {
	t.Helper()
	w := &watched{guard: guard.New(thread), thread: thread, l: l, next: clears, kept: slices.Clone(l), given: slices.Clone(l)}
	w.sweep = sweep.New(l)
	w.wantTold(t, m)
	return w
}

func (w *watched) String() string {
	return fmt.Sprintf("sweep of thread %d with %+v: %s behind %d, seen %v", w.thread, w.given, w.next, w.at, w.seen)
}

// wants tells the access that the next Step is to be.
func (w *watched) wants(m *mem.Mem) bank.Access {
	c := m.Config()
	switch w.next {
	case clears:
		return storing(m, reservation(c, w.thread, w.at), 0)
	case looks:
		return loading(m, reservation(c, w.at/c.Slots, w.at%c.Slots))
	}
	h := w.others[w.at].Node
	return storing(m, metaCell(c, h), afterwards(genOf(h), c.Last))
}

// goesOn takes down what came of the access.
func (w *watched) goesOn(c api.Config, a bank.Access) {
	w.at++
	switch {
	case w.next == clears && w.at == c.Slots:
		w.next, w.at, w.latest = looks, 0, 0
		if len(w.given) < c.Keep {
			w.next = over
		}
	case w.next == looks:
		w.seen = append(w.seen, a.Old)
		if w.at == c.Threads*c.Slots {
			w.part()
		}
	case w.next == frees && w.at == len(w.others):
		w.next = over
	}
}

func (w *watched) part() {
	w.kept, w.next, w.at = nil, frees, 0
	for _, e := range w.given {
		if covered(e, w.seen) {
			w.kept = append(w.kept, e)
		} else {
			w.others = append(w.others, e)
		}
	}
	if len(w.others) == 0 {
		w.next = over
	}
}

func (w *watched) step(t *testing.T, m *mem.Mem) {
	t.Helper()
	if w.next == over {
		w.wantIdle(t, m)
		return
	}
	a := w.wants(m)
	wantAccess(t, w, m, a, func() { w.sweep.Step(m, w.guard) })
	w.goesOn(m.Config(), a)
	w.wantTold(t, m)
}

// wantTold holds what the sweep tells against what it should, that telling is no access, and that what New was given stays as it was.
func (w *watched) wantTold(t *testing.T, m *mem.Mem) {
	t.Helper()
	count := m.Bank().Count()
	if w.sweep.Done() != (w.next == over) {
		t.Fatalf("%s: Done %v", w, w.sweep.Done())
	}
	if l := w.sweep.Kept(); !slices.Equal(l, w.kept) {
		t.Fatalf("%s: Kept %+v; want %+v", w, l, w.kept)
	}
	if l := w.sweep.Seen(); !slices.Equal(l, w.seen) {
		t.Fatalf("%s: Seen %v", w, l)
	}
	if w.guard.Latest() != w.latest {
		t.Fatalf("%s: the latest is %d; want %d", w, w.guard.Latest(), w.latest)
	}
	if m.Bank().Count() != count {
		t.Fatalf("%s: what is told was an access", w)
	}
	if !slices.Equal(w.l, w.given) {
		t.Fatalf("%s: what New was given is %+v now", w, w.l)
	}
}

func (w *watched) wantIdle(t *testing.T, m *mem.Mem) {
	t.Helper()
	had, count := m.Bank().Cells(), m.Bank().Count()
	for range 3 {
		w.sweep.Step(m, w.guard)
	}
	if m.Bank().Count() != count || !slices.Equal(m.Bank().Cells(), had) {
		t.Fatalf("%s: a Step behind the end did something", w)
	}
	w.wantTold(t, m)
}

// toEnd steps to the end, which is to come within that many steps, and tells how many there were.
func (w *watched) toEnd(t *testing.T, m *mem.Mem, most int) int {
	t.Helper()
	steps := 0
	for ; w.next != over; steps++ {
		if steps == most {
			t.Fatalf("%s: no end in %d steps", w, most)
		}
		w.step(t, m)
	}
	w.wantIdle(t, m)
	return steps
}

// to steps until so many of that kind are behind it.
func (w *watched) to(t *testing.T, m *mem.Mem, next string, at int) {
	t.Helper()
	for w.next != next || w.at != at {
		if w.next == over {
			t.Fatalf("%s: did not come to %s", w, next)
		}
		w.step(t, m)
	}
}

// stepsAlone is as many as a sweep of that many entries takes at most, by the words of the chapter.
func stepsAlone(c api.Config, entries int) int { return c.Slots + c.Threads*c.Slots + entries }

// wantAlone lets a sweep go alone, and holds what it leaves against the words: what is kept is covered by what another thread has, the slots of the rest are let go of, and no other cell changes but the thread's reservations.
func wantAlone(t *testing.T, m *mem.Mem, thread int, l ...cover.Entry) {
	t.Helper()
	c, words := m.Config(), m.Bank().Cells()
	w := watch(t, m, thread, l...)
	steps := w.toEnd(t, m, stepsAlone(c, len(l)))
	for slot := range c.Slots {
		if thread < c.Threads {
			words[reservation(c, thread, slot)] = 0
		}
	}
	kept, seen, want := l, []uint64(nil), c.Slots
	if len(l) >= c.Keep {
		kept, seen = nil, slices.Clone(words[1:1+c.Threads*c.Slots])
		for _, e := range l {
			if covered(e, seen) {
				kept = append(kept, e)
			} else {
				words[metaCell(c, e.Node)] = afterwards(genOf(e.Node), c.Last)
			}
		}
		want = c.Slots + len(seen) + len(l) - len(kept)
	}
	if steps != want || !slices.Equal(w.sweep.Kept(), kept) || !slices.Equal(w.sweep.Seen(), seen) {
		t.Fatalf("%s: %d steps, Kept %+v; want %d, %+v, seen %v", w, steps, w.sweep.Kept(), want, kept, seen)
	}
	if !slices.Equal(m.Bank().Cells(), words) {
		t.Fatalf("%s: leaves %v; want %v", w, m.Bank().Cells(), words)
	}
}

// lived is an entry of the node in that slot.
func lived(index int, birth, retired uint64) cover.Entry {
	return cover.Entry{Node: node(index), Birth: birth, Retired: retired}
}

// entries has one each of the slots from 1 on, the first of which lived in the eras 10 and 11, the next one in 20 and 21, and so on.
func entries(n int) []cover.Entry {
	var l []cover.Entry
	for i := 1; i <= n; i++ {
		l = append(l, lived(i, uint64(10*i), uint64(10*i+1)))
	}
	return l
}

// rows calls with each row of n of these words.
func rows(words []uint64, n int, call func(row []uint64)) {
	row := make([]uint64, n)
	var fill func(i int)
	fill = func(i int) {
		if i == n {
			call(row)
			return
		}
		for _, w := range words {
			row[i] = w
			fill(i + 1)
		}
	}
	fill(0)
}

func TestExamples(t *testing.T) { // P15.1, P15.2
	for _, x := range []struct{ entries, steps, kept int }{
		{1, 1, 1},
		{2, 4, 0},
	} {
		m := worldOf(t, config(1, 1, 2, 2, 9))
		s, g := sweep.New(entries(x.entries)), guard.New(0)
		steps := 0
		for ; steps < 9 && !s.Done(); steps++ {
			s.Step(m, g)
		}
		if steps != x.steps || m.Bank().Count() != x.steps || len(s.Kept()) != x.kept {
			t.Errorf("%d entries: %d steps, %d accesses, %+v is kept", x.entries, steps, m.Bank().Count(), s.Kept())
		}
	}
}

// TestEachStep writes each access of a sweep down, by no model.
func TestEachStep(t *testing.T) { // P15.1, P15.2, P15.3
	c := api.Config{Threads: 2, Slots: 2, Cap: 4, Height: 1, Keep: 3, Every: 1, Last: 5}
	cells := make([]uint64, 40)
	copy(cells, []uint64{12, 6, 0, 9, 9}) // the clock, and the reservations
	cells[12], cells[19], cells[26], cells[33] = 21, 1, 4, 9
	m := worldWith(t, c, cells)
	l := []cover.Entry{
		{Node: 1<<63 | 5<<32 | 1, Birth: 9, Retired: 9},
		{Node: 1<<63 | 2, Birth: 4, Retired: 6},
		{Node: 1<<63 | 2<<32 | 4, Birth: 7, Retired: 8},
	}
	s, g := sweep.New(l), guard.New(1)
	var seen []uint64
	for i, want := range []bank.Access{
		{Kind: bank.Stores, Cell: 3, Old: 9, Done: true},
		{Kind: bank.Stores, Cell: 4, Old: 9, Done: true},
		{Kind: bank.Loads, Cell: 1, Old: 6, New: 6, Done: true},
		{Kind: bank.Loads, Cell: 2, Done: true},
		{Kind: bank.Loads, Cell: 3, Done: true},
		{Kind: bank.Loads, Cell: 4, Done: true},
		{Kind: bank.Stores, Cell: 12, Old: 21, New: 22, Done: true}, // out
		{Kind: bank.Stores, Cell: 33, Old: 9, New: 12, Done: true},  // free, in generation 3
	} {
		kept := l
		if i >= 6 {
			kept = l[1:2]
		}
		if s.Done() || !slices.Equal(s.Kept(), kept) || !slices.Equal(s.Seen(), seen) {
			t.Fatalf("step %d: Done %v, Kept %+v, Seen %v", i, s.Done(), s.Kept(), s.Seen())
		}
		wantAccess(t, fmt.Sprintf("step %d", i), m, want, func() { s.Step(m, g) })
		if want.Kind == bank.Loads {
			seen = append(seen, want.Old)
		}
	}
	if !s.Done() || !slices.Equal(s.Kept(), l[1:2]) || !slices.Equal(s.Seen(), []uint64{6, 0, 0, 0}) {
		t.Errorf("at the end: Done %v, Kept %+v, Seen %v", s.Done(), s.Kept(), s.Seen())
	}
}

func TestKeep(t *testing.T) { // P15.1, P15.2
	for _, keep := range []int{1, 2, 3, 10, 63, 64} {
		for _, n := range []int{0, 1, keep - 1, keep, keep + 1, 2*keep + 1} {
			for _, era := range []uint64{0, 10, 11, 15, 20, 31} {
				c := config(2, 2, min(max(n, 1), 64), keep, 9)
				l := entries(n)
				for i := range l {
					l[i].Node = node(i%64 + 1)
				}
				m := worldOf(t, c, 0, 0, 0, era)
				wantAlone(t, m, 0, l...)
				if looked := m.Bank().Count() > c.Slots; looked != (n >= keep) {
					t.Errorf("Keep %d, %d entries: %d accesses", keep, n, m.Bank().Count())
				}
			}
		}
	}
}

func TestNoEntries(t *testing.T) { // P15.1, P15.2
	for _, l := range [][]cover.Entry{nil, {}} {
		for slots := 1; slots <= 8; slots++ {
			m := worldOf(t, config(2, slots, 1, 1, 9), 4, 4)
			s, g := sweep.New(l), guard.New(0)
			for i := range slots {
				if s.Done() {
					t.Fatalf("%d slots: Done behind %d clears", slots, i)
				}
				wantAccess(t, "clear", m, storing(m, 1+i, 0), func() { s.Step(m, g) })
			}
			if !s.Done() || len(s.Kept()) != 0 || len(s.Seen()) != 0 {
				t.Errorf("%d slots: Done %v, Kept %+v, Seen %v", slots, s.Done(), s.Kept(), s.Seen())
			}
		}
	}
}

func TestNothingReserved(t *testing.T) { // P15.3
	for _, size := range [][2]int{{1, 1}, {1, 8}, {2, 3}, {8, 1}, {8, 8}} {
		for n := 1; n <= 5; n++ {
			for keep := 1; keep <= n; keep++ {
				m := worldOf(t, config(size[0], size[1], 5, keep, 9))
				w := watch(t, m, 0, append(entries(n-1), lived(n, 0, greatestWord))...)
				w.toEnd(t, m, 100)
				if len(w.sweep.Kept()) != 0 {
					t.Errorf("%s: Kept %+v", w, w.sweep.Kept())
				}
			}
		}
	}
}

// TestSmallWorlds has each row of reservations of few eras, and each list of few entries.
func TestSmallWorlds(t *testing.T) { // P15.1, P15.2, P15.3
	lists := [][]cover.Entry{
		nil,
		{lived(1, 1, 3)},
		{lived(2, 3, 3), lived(1, 1, 2)},
		{lived(1, 1, 1), lived(3, 3, 4), lived(2, 2, 2)},
		{lived(3, 0, 4), lived(2, 4, 1), lived(1, 0, 0)},
	}
	for _, size := range [][2]int{{1, 1}, {1, 3}, {2, 1}, {2, 2}, {3, 1}} {
		for _, l := range lists {
			rows([]uint64{0, 1, 3, 5}, size[0]*size[1], func(eras []uint64) {
				for keep := 1; keep <= 4; keep++ {
					for thread := range size[0] {
						wantAlone(t, worldOf(t, config(size[0], size[1], 3, keep, 2), eras...), thread, l...)
					}
				}
			})
		}
	}
}

func TestWhichAreCovered(t *testing.T) { // P15.1, P15.2, P15.3
	const n = 5
	for set := range 1 << n {
		for _, at := range []int{2, 9} { // from there on the eras of those that are to be kept
			eras, want := make([]uint64, 16), []cover.Entry(nil)
			for i, e := range entries(n) {
				if set>>i&1 == 1 {
					eras[at+i] = e.Birth + uint64(i%2)
					want = append(want, e)
				}
			}
			m := worldOf(t, config(8, 2, n, n, 9), eras...)
			w := watch(t, m, 0, entries(n)...)
			if steps := w.toEnd(t, m, 100); steps != 18+n-len(want) {
				t.Errorf("%s: %d steps", w, steps)
			}
			if !slices.Equal(w.sweep.Kept(), want) {
				t.Errorf("%s: Kept %+v; want %+v", w, w.sweep.Kept(), want)
			}
			for i, e := range entries(n) {
				if letGo := meta(m, e.Node) != word(taken, genOf(e.Node)); letGo != (set>>i&1 == 0) {
					t.Errorf("%s: slot %d has %#x", w, i+1, meta(m, e.Node))
				}
			}
		}
	}
}

// TestEdgesOfALife has an era at, below and above each end, in each reservation.
func TestEdgesOfALife(t *testing.T) { // P15.1, P15.3
	for _, life := range [][2]uint64{{1, 1}, {3, 5}, {0, 2}, {0, greatestWord}, {greatestWord, greatestWord}, {1 << 63, 1<<63 + 1}, {5, 3}, {greatestWord, 0}} {
		for _, end := range life {
			for _, era := range []uint64{end - 1, end, end + 1} {
				for place := range 6 {
					eras := make([]uint64, 6)
					eras[place] = era
					m := worldOf(t, config(3, 2, 2, 1, 9), eras...)
					wantAlone(t, m, 1, lived(2, life[0], life[1]))
					kept := era != 0 && era >= life[0] && era <= life[1] && place/2 != 1
					if meta(m, node(2)) == word(taken, 2) != kept {
						t.Errorf("lived %v, %d reserved at %d: the slot has %#x", life, era, place, meta(m, node(2)))
					}
				}
			}
		}
	}
}

func TestOwnReservationsKeepNothing(t *testing.T) { // P15.1, P15.3
	for threads := 1; threads <= 8; threads++ {
		for thread := range threads {
			eras := slices.Repeat([]uint64{0}, threads*3)
			for slot := range 3 {
				eras[thread*3+slot] = 10
			}
			m := worldOf(t, config(threads, 3, 1, 1, 9), eras...)
			w := watch(t, m, thread, entries(1)...)
			w.toEnd(t, m, 100)
			if len(w.sweep.Kept()) != 0 || meta(m, node(1)) != word(free, 2) || slices.Max(w.sweep.Seen()) != 0 {
				t.Errorf("%s: Kept %+v", w, w.sweep.Kept())
			}
		}
	}
}

// TestReservationsBetweenSteps has one reservation made, or taken back, ahead of each Step: what counts is what its own look saw.
func TestReservationsBetweenSteps(t *testing.T) { // P15.1, P15.2, P15.3
	const threads, slots = 3, 2
	for thread := range threads {
		for place := range threads * slots {
			for _, change := range [][2]uint64{{0, 20}, {20, 0}, {30, 11}, {20, 21}} {
				for at := range 12 {
					eras := make([]uint64, threads*slots)
					eras[place] = change[0]
					m := worldOf(t, config(threads, slots, 3, 2, 9), eras...)
					w := watch(t, m, thread, entries(3)...)
					for i := 0; w.next != over; i++ {
						if i == at {
							m.Reserve(place/slots, place%slots, change[1])
						}
						w.step(t, m)
					}
					wantSeen(t, w, place, wordAtLook(thread, place, at, change))
				}
			}
		}
	}
}

// wordAtLook tells what a reservation has when it is looked at, if it is changed ahead of that Step, in a world with two slots.
func wordAtLook(thread, place, at int, change [2]uint64) uint64 {
	cleared, looked := -1, 2+place
	if place/2 == thread {
		cleared = place % 2
	}
	switch {
	case cleared < at && at <= looked:
		return change[1]
	case cleared >= 0:
		return 0
	}
	return change[0]
}

// wantSeen tells that this era, and no other one, was seen at that place, and what is kept of three entries then.
func wantSeen(t *testing.T, w *watched, place int, era uint64) {
	t.Helper()
	seen := make([]uint64, 6)
	seen[place] = era
	if !slices.Equal(w.sweep.Seen(), seen) {
		t.Fatalf("%s: Seen %v; want %v", w, w.sweep.Seen(), seen)
	}
	kept := slices.DeleteFunc(entries(3), func(e cover.Entry) bool { return era < e.Birth || era > e.Retired })
	if !slices.Equal(w.sweep.Kept(), kept) {
		t.Fatalf("%s: Kept %+v; want %+v", w, w.sweep.Kept(), kept)
	}
}

// TestAnEraThatMoves has an era that goes from one reservation to another one behind the look there: nobody sees it.
func TestAnEraThatMoves(t *testing.T) { // P15.1, P15.2
	m := worldOf(t, config(2, 2, 1, 1, 9), 0, 0, 0, 10)
	w := watch(t, m, 0, entries(1)...)
	w.to(t, m, looks, 3)
	m.Reserve(1, 0, 10)
	m.Reserve(1, 1, 0)
	w.toEnd(t, m, 2)
	if len(w.sweep.Kept()) != 0 || !slices.Equal(w.sweep.Seen(), make([]uint64, 4)) {
		t.Errorf("%s: Kept %+v, Seen %v", w, w.sweep.Kept(), w.sweep.Seen())
	}
}

// TestReservationsBehindTheLooks has each reserved behind the last look: what was not covered is let go of all the same, and what was is kept.
func TestReservationsBehindTheLooks(t *testing.T) { // P15.1, P15.2
	m := worldOf(t, config(2, 2, 4, 4, 9), 0, 0, 20, 0)
	w := watch(t, m, 0, entries(4)...)
	w.to(t, m, frees, 0)
	for i, era := range []uint64{10, 30, 0, 40} {
		m.Reserve(i/2, i%2, era)
	}
	if steps := w.toEnd(t, m, 3); steps != 3 || !slices.Equal(w.sweep.Kept(), entries(4)[1:2]) {
		t.Errorf("%s: %d steps, Kept %+v", w, steps, w.sweep.Kept())
	}
}

// TestASweepOfWhatWasKept has fewer entries than Keep left behind a sweep: the next one keeps them unseen, until there are as many again.
func TestASweepOfWhatWasKept(t *testing.T) { // P15.1, P15.2
	m := worldOf(t, config(2, 1, 4, 2, 9), 0, 40)
	w := watch(t, m, 0, entries(4)...)
	w.toEnd(t, m, 6)
	m.Reserve(1, 0, 0)
	again := watch(t, m, 0, w.sweep.Kept()...)
	if steps := again.toEnd(t, m, 1); steps != 1 || !slices.Equal(again.sweep.Kept(), entries(4)[3:]) {
		t.Errorf("%s: %d steps, Kept %+v", again, steps, again.sweep.Kept())
	}
	last := watch(t, m, 0, append(again.sweep.Kept(), lived(1, 5, 6))...)
	if last.toEnd(t, m, 5); len(last.sweep.Kept()) != 0 {
		t.Errorf("%s: Kept %+v", last, last.sweep.Kept())
	}
}

// TestWorldsOfAllSizes has eras in all reservations, so that those of another thread or slot than the one that is next would be seen.
func TestWorldsOfAllSizes(t *testing.T) { // P15.1, P15.2
	for threads := 1; threads <= 8; threads++ {
		for slots := 1; slots <= 8; slots++ {
			var eras []uint64
			for i := range threads * slots {
				eras = append(eras, uint64(10*(i+1)))
			}
			for thread := range threads {
				m := worldOf(t, config(threads, slots, 64, 64, 9), eras...)
				wantAlone(t, m, thread, entries(64)...)
				m = worldOf(t, config(threads, slots, 64, 64, 9), eras...)
				wantAlone(t, m, thread, entries(63)...)
			}
		}
	}
}

func TestGenerationsOfWhatIsLetGoOf(t *testing.T) { // P15.1, P15.3
	for _, last := range []int{0, 1, 3, maxLast - 1, maxLast} {
		for _, gen := range []int{0, 1, 2, 3, 4, maxLast - 1, maxLast} {
			m := worldOf(t, config(1, 1, 3, 1, last))
			m.Release(2, word(taken, gen))
			w := watch(t, m, 0, cover.Entry{Node: named(2, gen), Birth: 1, Retired: 2})
			w.toEnd(t, m, 3)
			want := word(out, last)
			if gen < last {
				want = word(free, gen+1)
			}
			if meta(m, named(2, gen)) != want {
				t.Errorf("generation %d of %d: the slot has %#x; want %#x", gen, last, meta(m, named(2, gen)), want)
			}
		}
	}
}

func TestWhatIsLetGoOfIsGotInTheNextGeneration(t *testing.T) { // P15.3
	const last = 3
	m := worldOf(t, config(2, 1, 2, 1, last))
	h := named(1, 0)
	m.Release(1, word(taken, 0))
	for gen := 1; ; gen++ {
		watch(t, m, 1, cover.Entry{Node: h, Birth: 1, Retired: 1}).toEnd(t, m, 4)
		c := claim.New(1)
		for range 4 {
			c.Step(m)
		}
		if gen > last {
			if c.Got() != 0 {
				t.Errorf("got %#x behind the last generation", c.Got())
			}
			return
		}
		if h = c.Got(); h != named(1, gen) {
			t.Fatalf("got %#x; want generation %d", h, gen)
		}
	}
}

func TestEntriesThatAreTheSame(t *testing.T) { // P15.1, P15.2
	e := lived(2, 10, 11)
	for _, era := range []uint64{0, 10} {
		for n := 1; n <= 4; n++ {
			m := worldOf(t, config(2, 1, 3, 2, 9), 0, era)
			wantAlone(t, m, 0, slices.Repeat([]cover.Entry{e}, n)...)
		}
	}
	m := worldOf(t, config(2, 1, 3, 2, 9), 0, 20)
	wantAlone(t, m, 0, e, lived(2, 20, 20), e, lived(2, 21, 22))
}

// TestTheOrderOfWhatIsLetGoOf has one slot's node twice, in two generations: the slot has what the last one left.
func TestTheOrderOfWhatIsLetGoOf(t *testing.T) { // P15.1
	older, newer := cover.Entry{Node: named(1, 2)}, cover.Entry{Node: named(1, 5)}
	for _, l := range [][]cover.Entry{{older, newer}, {newer, older}} {
		m := worldOf(t, config(1, 1, 1, 1, 9))
		watch(t, m, 0, l...).toEnd(t, m, 4)
		if want := word(free, genOf(l[1].Node)+1); meta(m, l[1].Node) != want {
			t.Errorf("%+v: the slot has %#x; want %#x", l, meta(m, l[1].Node), want)
		}
	}
}

func TestWhatNewIsGivenIsWrittenInto(t *testing.T) { // P15.1, R5, R6
	for at := range 12 {
		l := append(make([]cover.Entry, 0, 20), entries(4)...)
		m := worldOf(t, config(2, 2, 5, 2, 9), 0, 0, 20, 0)
		w := watch(t, m, 0, l...)
		w.l = w.given
		for i := 0; i <= at || w.next != over; i++ {
			if i == at {
				for k := range l {
					l[k] = lived(5, 1, greatestWord)
				}
				_ = append(l, lived(5, 20, 20))
			}
			w.step(t, m)
		}
		if !slices.Equal(w.sweep.Kept(), entries(4)[1:2]) {
			t.Errorf("%s: Kept %+v", w, w.sweep.Kept())
		}
	}
}

func TestWhatIsToldIsWrittenInto(t *testing.T) { // P15.2, R6
	m := worldOf(t, config(3, 2, 6, 2, 9), 0, 0, 20, 0, 40, 51)
	w := watch(t, m, 0, entries(6)...)
	var told [][]uint64
	for range 20 {
		kept, seen := w.sweep.Kept(), w.sweep.Seen()
		for i := range kept {
			kept[i] = lived(6, 60, 61)
		}
		_ = append(kept[:0], lived(5, 1, 1), lived(5, 2, 2))
		for i := range seen {
			seen[i] = 10
		}
		told = append(told, append(seen, 10, 10, 10))
		w.step(t, m)
	}
	if w.next != over || !slices.Equal(w.sweep.Seen(), []uint64{0, 0, 20, 0, 40, 51}) {
		t.Errorf("%s: Seen %v", w, w.sweep.Seen())
	}
	for i, l := range told {
		if slices.ContainsFunc(l, func(era uint64) bool { return era != 10 }) {
			t.Errorf("what was told ahead of step %d is %v now", i, l)
		}
	}
}

// TestWhatWasToldStays holds what was told ahead of a Step against what it was, once the sweep has ended.
func TestWhatWasToldStays(t *testing.T) { // P15.2, R6
	m := worldOf(t, config(2, 2, 4, 2, 9), 0, 0, 20, 31)
	w := watch(t, m, 0, entries(4)...)
	var kept, wantKept [][]cover.Entry
	var seen, wantSeen [][]uint64
	for range 10 {
		kept, wantKept = append(kept, w.sweep.Kept()), append(wantKept, slices.Clone(w.kept))
		seen, wantSeen = append(seen, w.sweep.Seen()), append(wantSeen, slices.Clone(w.seen))
		w.step(t, m)
	}
	for i := range kept {
		if !slices.Equal(kept[i], wantKept[i]) || !slices.Equal(seen[i], wantSeen[i]) {
			t.Errorf("what was told ahead of step %d: Kept %+v, Seen %v now; want %+v, %v", i, kept[i], seen[i], wantKept[i], wantSeen[i])
		}
	}
}

// TestTheGuardBehindASweep has a guard that has used all its reservations: it has used none then, and may use them again.
func TestTheGuardBehindASweep(t *testing.T) { // P15.1
	for slots := 1; slots <= 8; slots++ {
		for n := range 3 {
			m := worldOf(t, config(2, slots, 2, 1, 9))
			w := watch(t, m, 1, entries(n)...)
			for slot := range slots {
				w.latest = uint64(slot + 5)
				w.guard.Publish(m, w.latest)
			}
			w.toEnd(t, m, 100)
			for slot := range slots {
				wantAccess(t, "publish", m, storing(m, reservation(m.Config(), 1, slot), 7), func() {
					if !w.guard.Publish(m, 7) {
						t.Errorf("%d slots: the reservation %d was used still", slots, slot)
					}
				})
			}
			if w.guard.Publish(m, 8) {
				t.Errorf("%d slots: more reservations than there are", slots)
			}
		}
	}
}

// TestAReaderHoldsItsNode has another thread's guard publish an era, and clear it later on.
func TestAReaderHoldsItsNode(t *testing.T) { // P15.3
	m := worldOf(t, config(2, 2, 2, 1, 9))
	reader := guard.New(1)
	reader.Publish(m, 11)
	w := watch(t, m, 0, entries(2)...)
	w.toEnd(t, m, 100)
	if meta(m, node(1)) != word(taken, 1) || meta(m, node(2)) != word(free, 3) {
		t.Errorf("%s: the slots have %#x and %#x", w, meta(m, node(1)), meta(m, node(2)))
	}
	reader.Clear(m, 0)
	w = watch(t, m, 0, w.sweep.Kept()...)
	w.toEnd(t, m, 100)
	if meta(m, node(1)) != word(free, 2) || len(w.sweep.Kept()) != 0 {
		t.Errorf("%s: the slot has %#x", w, meta(m, node(1)))
	}
}

// TestTwoSweepsAtOnce tries each way in which the steps of two sweeps can be mixed.
func TestTwoSweepsAtOnce(t *testing.T) { // P15.1, P15.2, P15.3
	rows([]uint64{0, 10, 31}, 2, func(eras []uint64) {
		for script := range 1 << 10 {
			m := worldOf(t, config(2, 1, 4, 2, 9), eras...)
			l := entries(4)
			both := []*watched{watch(t, m, 0, l[:2]...), watch(t, m, 1, l[2:]...)}
			for i := range 10 {
				both[script>>i&1].step(t, m)
			}
			for _, w := range both {
				w.toEnd(t, m, 5)
				for _, e := range w.given {
					kept := slices.Contains(w.sweep.Kept(), e)
					if kept != covered(e, w.sweep.Seen()) || kept != (meta(m, e.Node) == word(taken, genOf(e.Node))) {
						t.Fatalf("%s, script %b: %+v is kept: %v, and its slot has %#x", w, script, e, kept, meta(m, e.Node))
					}
				}
			}
		}
	})
}

func TestSweepsKeepApart(t *testing.T) { // R6
	m, other := worldOf(t, config(2, 1, 3, 1, 9), 0, 10), worldOf(t, config(3, 2, 4, 3, 1), 0, 0, 20, 0, 0, 40)
	l := []*watched{watch(t, m, 0, entries(3)...), watch(t, other, 0, entries(4)...), watch(t, m, 0, entries(2)...), watch(t, other, 0, entries(2)...)}
	for range 14 {
		for i, w := range l {
			w.step(t, []*mem.Mem{m, other}[i%2])
		}
	}
	for i, n := range []int{1, 2, 1, 2} {
		if !l[i].sweep.Done() || len(l[i].sweep.Kept()) != n {
			t.Errorf("%s: Kept %+v", l[i], l[i].sweep.Kept())
		}
	}
}

func TestNodesThatThereAreNot(t *testing.T) { // P15.1, R1, R8
	nodes := []uint64{0, 1, head, head | mark, named(4, 0), named(64, 3), named(1<<32-1, maxLast), greatestWord, mark, 1 << 62, 5 << 32, named(2, 7), named(3, maxLast), named(2, 1) | mark}
	for _, h := range nodes {
		for _, had := range []uint64{word(free, 2), word(taken, 1), word(out, 9), 3, greatestWord} {
			m := worldOf(t, config(2, 1, 3, 1, 9), 0, 5)
			for index := range 4 {
				m.Release(index, had)
			}
			w := watch(t, m, 0, lived(1, 1, 2), cover.Entry{Node: h, Birth: 1, Retired: 2}, cover.Entry{Node: h, Birth: 3, Retired: 5})
			if steps := w.toEnd(t, m, 5); steps != 5 || !slices.Equal(w.sweep.Kept(), w.given[2:]) {
				t.Errorf("%s: %d steps, Kept %+v", w, steps, w.sweep.Kept())
			}
		}
	}
	m := worldOf(t, config(2, 1, 3, 1, 9))
	words := m.Bank().Cells()
	watch(t, m, 0, cover.Entry{Node: named(4, 0)}, cover.Entry{Node: greatestWord}).toEnd(t, m, 5)
	if !slices.Equal(m.Bank().Cells(), words) {
		t.Errorf("nodes that there are not: leaves %v; want %v", m.Bank().Cells(), words)
	}
}

func TestRetiredAheadOfItsBirth(t *testing.T) { // P15.1, P15.3
	for _, era := range []uint64{0, 1, 4, 5, 6, 7, 8, greatestWord} {
		m := worldOf(t, config(2, 1, 2, 1, 9), 0, era)
		w := watch(t, m, 0, lived(1, 7, 5), lived(2, greatestWord, 0))
		w.toEnd(t, m, 5)
		if len(w.sweep.Kept()) != 0 || meta(m, node(1)) != word(free, 2) {
			t.Errorf("%s: Kept %+v", w, w.sweep.Kept())
		}
	}
}

func TestGuardOfAThreadThatThereIsNot(t *testing.T) { // P15.1, R1, R8
	for _, thread := range []int{-1, 2, 3, 8, math.MaxInt, math.MinInt} {
		for n := range 3 {
			m := worldOf(t, config(2, 3, 2, 2, 9), 10, 0, 0, 0, 0, 10)
			w := watch(t, m, thread, entries(n)...)
			steps := w.toEnd(t, m, 100)
			if n < 2 && steps != 3 || n == 2 && (steps != 10 || len(w.sweep.Kept()) != 1) {
				t.Errorf("%s: %d steps, Kept %+v", w, steps, w.sweep.Kept())
			}
		}
	}
}

// rolls tells words that hang on nothing but those ahead of them.
func rolls(seed uint64) func() uint64 {
	return func() uint64 {
		seed ^= seed << 13
		seed ^= seed >> 7
		seed ^= seed << 17
		return seed
	}
}

// anyWord has words of all kinds: handles with and without the mark, small numbers, and any.
func anyWord(roll func() uint64) uint64 {
	switch roll() % 4 {
	case 0:
		return roll()
	case 1:
		return roll() % 8
	case 2:
		return named(int(roll()%7), int(roll()%3)) | roll()&mark
	}
	return roll() >> (roll() % 64)
}

// anyWords has a world of any words.
func anyWords(t *testing.T, roll func() uint64) *mem.Mem {
	t.Helper()
	c := config(1+int(roll()%4), 1+int(roll()%4), 1+int(roll()%6), 1+int(roll()%4), int(roll()%4))
	words := make([]uint64, 1+c.Threads*c.Slots+(c.Cap+1)*(6+height))
	for i := range words {
		words[i] = anyWord(roll)
	}
	return worldWith(t, c, words)
}

func TestAnyWords(t *testing.T) { // P15.1, P15.2, P15.3, R1, R8
	kept, gone := 0, 0
	for seed := uint64(1); seed <= 4000; seed++ {
		roll := rolls(seed * 0x9e3779b97f4a7c15)
		m := anyWords(t, roll)
		c := m.Config()
		var l []cover.Entry
		for range roll() % 8 {
			l = append(l, cover.Entry{Node: anyWord(roll), Birth: anyWord(roll), Retired: anyWord(roll)})
		}
		w := watch(t, m, int(roll()%6)-1, l...)
		for steps := 0; w.next != over; steps++ {
			if steps == stepsAlone(c, len(l)) {
				t.Fatalf("%s: no end", w)
			}
			switch roll() % 4 {
			case 0:
				m.Reserve(int(roll()%5), int(roll()%5), anyWord(roll))
			case 1:
				m.Release(int(roll()%7), anyWord(roll))
			}
			w.step(t, m)
		}
		w.wantIdle(t, m)
		if len(w.seen) > 0 {
			kept, gone = kept+len(w.kept), gone+len(w.others)
		}
	}
	if kept < 100 || gone < 100 {
		t.Errorf("%d were kept, and %d let go of", kept, gone)
	}
}

func TestStepsOverWorldsThatChange(t *testing.T) { // R1, R8
	small, great := worldOf(t, config(1, 1, 1, 1, 0), 10), worldOf(t, config(8, 8, 64, 64, 9), 10, 20)
	for _, l := range [][]*mem.Mem{{small, great}, {great, small}, {great, great, great, small}, {small, small, great}} {
		for _, n := range []int{0, 1, 2, 63, 64, 70} {
			s, g := sweep.New(entries(n)), guard.New(1)
			for i := range 200 {
				m := l[i%len(l)]
				done, count := s.Done(), m.Bank().Count()
				s.Step(m, g)
				if steps := m.Bank().Count() - count; steps > 1 || steps == 0 != done {
					t.Fatalf("%d entries: %d accesses, Done %v", n, steps, done)
				}
				if len(s.Seen()) > 64 || len(s.Kept()) > n {
					t.Fatalf("%d entries: Kept %+v, Seen %v", n, s.Kept(), s.Seen())
				}
			}
			if !s.Done() {
				t.Errorf("%d entries: no end", n)
			}
		}
	}
}
