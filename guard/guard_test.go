package guard_test

import (
	"fmt"
	"math"
	"slices"
	"testing"

	"stepstone/api"
	"stepstone/bank"
	"stepstone/guard"
	"stepstone/mem"
)

const greatestWord = uint64(math.MaxUint64)

// clockCell and the cells of reservations are worked out by the words of chapter 4, so that they don't err along with the packages.
const clockCell = 0

// reservation tells the cell of a reservation, -1 if there is none.
func reservation(c api.Config, thread, slot int) int {
	if thread < 0 || thread >= c.Threads || slot < 0 || slot >= c.Slots {
		return -1
	}
	return 1 + thread*c.Slots + slot
}

func config(threads, slots int) api.Config {
	return api.Config{Threads: threads, Slots: slots, Cap: 2, Height: 2, Keep: 1, Every: 1, Last: 9}
}

func newWorld(t *testing.T, threads, slots int) *mem.Mem {
	t.Helper()
	m, e := mem.New(config(threads, slots))
	if e != api.OK {
		t.Fatalf("New of %d threads and %d slots: error %d", threads, slots, e)
	}
	return m
}

// filledWorld has a word of its own in each cell, none of which is 0, so that no cell changes unseen.
func filledWorld(t *testing.T, threads, slots int) *mem.Mem {
	t.Helper()
	cells := newWorld(t, threads, slots).Bank().Cells()
	for i := range cells {
		cells[i] = uint64(1000 + i)
	}
	return worldOf(t, threads, slots, cells)
}

func worldOf(t *testing.T, threads, slots int, cells []uint64) *mem.Mem {
	t.Helper()
	m, e := mem.Of(config(threads, slots), cells)
	if e != api.OK {
		t.Fatalf("Of %d threads and %d slots: error %d", threads, slots, e)
	}
	return m
}

// worldAt is one whose clock has that word.
func worldAt(t *testing.T, clock uint64) *mem.Mem {
	t.Helper()
	cells := newWorld(t, 2, 2).Bank().Cells()
	cells[clockCell] = clock
	return worldOf(t, 2, 2, cells)
}

// reserved tells a thread's reservations without an access.
func reserved(m *mem.Mem, thread int) []uint64 {
	first := reservation(m.Config(), thread, 0)
	return m.Bank().Cells()[first : first+m.Config().Slots]
}

// storing is the access that stores an era into a reservation, of the cell -1 if there is none.
func storing(m *mem.Mem, thread, slot int, era uint64) bank.Access {
	a := bank.Access{Kind: bank.Stores, Cell: reservation(m.Config(), thread, slot)}
	if a.Cell >= 0 {
		a.Old, a.New, a.Done = m.Bank().Cells()[a.Cell], era, true
	}
	return a
}

func loadingClock(m *mem.Mem) bank.Access {
	era := m.Bank().Cells()[clockCell]
	return bank.Access{Kind: bank.Loads, Cell: clockCell, Old: era, New: era, Done: true}
}

// wantAccess does something that is to be just that one access of the world.
func wantAccess(t *testing.T, what string, m *mem.Mem, want bank.Access, do func()) {
	t.Helper()
	had, count := m.Bank().Cells(), m.Bank().Count()
	do()
	if n := m.Bank().Count() - count; n != 1 {
		t.Fatalf("%s: %d accesses; want 1", what, n)
	}
	if a := m.Bank().Last(); a != want {
		t.Fatalf("%s: the access %+v; want %+v", what, a, want)
	}
	if want.Cell >= 0 {
		had[want.Cell] = want.New
	}
	if has := m.Bank().Cells(); !slices.Equal(has, had) {
		t.Fatalf("%s: cells %v; want %v", what, has, had)
	}
}

// watched is a guard, and what it should know by the words of the chapter.
type watched struct {
	guard  *guard.Guard
	thread int
	used   int
	latest uint64
}

func watch(t *testing.T, thread int) *watched {
	t.Helper()
	w := &watched{guard: guard.New(thread), thread: thread}
	w.wantTold(t, "a new guard")
	return w
}

func (w *watched) wantTold(t *testing.T, what string) {
	t.Helper()
	if thread, latest := w.guard.Thread(), w.guard.Latest(); thread != w.thread || latest != w.latest {
		t.Fatalf("%s: Thread %d, Latest %d; want %d and %d", what, thread, latest, w.thread, w.latest)
	}
}

func (w *watched) check(t *testing.T, m *mem.Mem) {
	t.Helper()
	want := m.Bank().Cells()[clockCell]
	var era uint64
	var is bool
	wantAccess(t, "Check", m, loadingClock(m), func() { era, is = w.guard.Check(m) })
	if era != want || is != (want == w.latest) {
		t.Fatalf("Check, the latest being %d: %d, %v; want %d, %v", w.latest, era, is, want, want == w.latest)
	}
	w.wantTold(t, "Check")
}

func (w *watched) publish(t *testing.T, m *mem.Mem, era uint64) bool {
	t.Helper()
	what := fmt.Sprintf("Publish of %d, where %d of %d are used", era, w.used, m.Config().Slots)
	slot, want := w.used, true
	if w.used >= m.Config().Slots {
		slot, want = 0, false
	}
	w.used, w.latest = slot+1, era
	var stay bool
	wantAccess(t, what, m, storing(m, w.thread, slot, era), func() { stay = w.guard.Publish(m, era) })
	if stay != want {
		t.Fatalf("%s: %v; want %v", what, stay, want)
	}
	w.wantTold(t, what)
	return stay
}

func (w *watched) clear(t *testing.T, m *mem.Mem, slot int) {
	t.Helper()
	what := fmt.Sprintf("Clear of %d, where %d of %d are used", slot, w.used, m.Config().Slots)
	if slot == m.Config().Slots-1 {
		w.used, w.latest = 0, 0
	}
	wantAccess(t, what, m, storing(m, w.thread, slot, 0), func() { w.guard.Clear(m, slot) })
	w.wantTold(t, what)
}

// wantNext asks in which slot the next era is published, which tells how many are used.
func (w *watched) wantNext(t *testing.T, m *mem.Mem, slot int, stay bool) {
	t.Helper()
	era := m.Bank().Cells()[clockCell] + 70
	if got := w.publish(t, m, era); got != stay || reserved(m, w.thread)[slot] != era {
		t.Fatalf("the next Publish: %v, and %v is reserved; want %v, and %d in the slot %d", got, reserved(m, w.thread), stay, era, slot)
	}
}

// afterPublishing is a guard of the thread 0 that has published so many eras in that world.
func afterPublishing(t *testing.T, m *mem.Mem, n int) *watched {
	t.Helper()
	w := watch(t, 0)
	for i := range n {
		w.publish(t, m, uint64(10+i))
	}
	return w
}

// wrongs has what is none of the numbers from 0 to n - 1.
func wrongs(n int) []int {
	return []int{math.MinInt, math.MinInt + 1, -1 << 32, -n - 1, -n, -2, -1, n, n + 1, 2 * n, 8, 64, 1 << 32, 1<<62 + 1, math.MaxInt - 1, math.MaxInt}
}

func TestExamples(t *testing.T) { // P10.1, P10.2
	m, g := newWorld(t, 1, 2), guard.New(0)
	if era, is := g.Check(m); era != 1 || is {
		t.Errorf("Check: %d, %v", era, is)
	}
	if !g.Publish(m, 1) {
		t.Error("Publish 1 told false")
	}
	if era, is := g.Check(m); era != 1 || !is {
		t.Errorf("Check: %d, %v", era, is)
	}
	if !g.Publish(m, 2) {
		t.Error("Publish 2 told false")
	}
	if g.Publish(m, 3) {
		t.Error("Publish 3 told true")
	}
	if l := reserved(m, 0); !slices.Equal(l, []uint64{3, 2}) || g.Latest() != 3 {
		t.Errorf("%v is reserved, the latest %d", l, g.Latest())
	}
}

func TestNewGuards(t *testing.T) { // P10.1
	for _, thread := range append(wrongs(8), 0, 1, 2, 3, 4, 5, 6, 7) {
		if g := guard.New(thread); g.Thread() != thread || g.Latest() != 0 {
			t.Errorf("New(%d): Thread %d, Latest %d", thread, g.Thread(), g.Latest())
		}
	}
}

func TestNewGuardsHaveUsedNone(t *testing.T) { // P10.1, P10.2
	for slots := 1; slots <= 8; slots++ {
		m, w := newWorld(t, 8, slots), watch(t, 7)
		for slot := range slots {
			w.wantNext(t, m, slot, true)
		}
		w.wantNext(t, m, 0, false)
	}
}

func TestCheck(t *testing.T) { // P10.1
	m, g := newWorld(t, 2, 3), guard.New(1)
	want := func(what string, wantEra uint64, wantIs bool) {
		t.Helper()
		if era, is := g.Check(m); era != wantEra || is != wantIs {
			t.Errorf("%s: %d, %v; want %d, %v", what, era, is, wantEra, wantIs)
		}
	}
	want("ahead of the first Publish", 1, false)
	g.Publish(m, 2)
	want("behind a Publish of an era that will be", 1, false)
	g.Publish(m, 1)
	want("behind a Publish of the era that is now", 1, true)
	want("once more", 1, true)
	m.Tick()
	want("behind the clock has gone on", 2, false)
	g.Publish(m, 2)
	want("behind a Publish of the next era", 2, true)
	g.Publish(m, 1)
	want("behind a Publish of an era that was", 2, false)
	g.Publish(m, 2)
	g.Clear(m, 0)
	want("behind the first was cleared", 2, true)
	g.Clear(m, 2)
	want("behind the last was cleared", 2, false)
}

// TestCheckAsksForTheLatestAlone has eras in all reservations, which are of no account.
func TestCheckAsksForTheLatestAlone(t *testing.T) { // P10.1
	cells := newWorld(t, 2, 2).Bank().Cells()
	cells[1], cells[2], cells[3], cells[4] = 1, 1, 1, 1
	m, w := worldOf(t, 2, 2, cells), watch(t, 1)
	w.check(t, m)
	if _, is := w.guard.Check(m); is {
		t.Error("a new guard's latest is the era that is now")
	}
	w.publish(t, m, 1)
	m.Reserve(1, 0, 0)
	m.Reserve(1, 1, 0)
	w.check(t, m)
	if _, is := w.guard.Check(m); !is {
		t.Error("the latest is not the era that is now")
	}
}

func TestCheckOfAnyClock(t *testing.T) { // P10.1, R1
	words := []uint64{0, 1, 2, 1 << 32, 1 << 63, greatestWord - 1, greatestWord}
	for _, clock := range words {
		for _, latest := range words {
			m, w := worldAt(t, clock), watch(t, 0)
			w.check(t, m)
			w.publish(t, m, latest)
			w.check(t, m)
		}
	}
}

func TestCheckOfAClockOf0(t *testing.T) { // P10.1
	m, g := worldAt(t, 0), guard.New(0)
	if era, is := g.Check(m); era != 0 || !is {
		t.Errorf("a new guard: %d, %v; its latest is 0", era, is)
	}
	g.Publish(m, 1)
	if era, is := g.Check(m); era != 0 || is {
		t.Errorf("the latest is 1: %d, %v", era, is)
	}
	m = worldAt(t, greatestWord)
	g.Publish(m, greatestWord)
	m.Tick()
	if era, is := g.Check(m); era != 0 || is {
		t.Errorf("the clock has gone round: %d, %v", era, is)
	}
}

func TestPublishRoundAndRound(t *testing.T) { // P10.2
	for _, threads := range []int{1, 2, 8} {
		for slots := 1; slots <= 8; slots++ {
			for thread := range threads {
				m, g := filledWorld(t, threads, slots), guard.New(thread)
				for i := range 3*slots + 2 {
					era, want := uint64(10*i+1), i == 0 || i%slots != 0
					var stay bool
					wantAccess(t, "Publish", m, storing(m, thread, i%slots, era), func() { stay = g.Publish(m, era) })
					if stay != want || g.Latest() != era {
						t.Fatalf("%d slots, Publish number %d of %d: %v, the latest is %d; want %v", slots, i+1, era, stay, g.Latest(), want)
					}
				}
			}
		}
	}
}

func TestPublishOfAnyWord(t *testing.T) { // P10.2, R1
	words := []uint64{0, 0, 1, greatestWord, greatestWord, greatestWord - 1, 1 << 63, 1, 0}
	for slots := 1; slots <= 8; slots++ {
		m, w := filledWorld(t, 2, slots), watch(t, 1)
		for _, era := range words {
			w.publish(t, m, era)
			w.check(t, m)
		}
	}
}

func TestPublishOfTheEra0(t *testing.T) { // P10.2
	m, w := newWorld(t, 1, 3), watch(t, 0)
	w.publish(t, m, 5)
	w.publish(t, m, 0)
	if w.guard.Latest() != 0 {
		t.Errorf("the latest is %d; want 0", w.guard.Latest())
	}
	w.wantNext(t, m, 2, true)
	w.wantNext(t, m, 0, false)
}

func TestPublishOfTheSameEraTwice(t *testing.T) { // P10.2
	m, w := newWorld(t, 1, 3), watch(t, 0)
	w.publish(t, m, 5)
	w.publish(t, m, 5)
	if l := reserved(m, 0); !slices.Equal(l, []uint64{5, 5, 0}) {
		t.Errorf("%v is reserved", l)
	}
	w.wantNext(t, m, 2, true)
	w.wantNext(t, m, 0, false)
}

// TestPublishLooksAtNoReservation has words in them that it did not publish, and takes some away that it did.
func TestPublishLooksAtNoReservation(t *testing.T) { // P10.2
	m, w := filledWorld(t, 2, 2), watch(t, 0)
	w.wantNext(t, m, 0, true)
	m.Reserve(0, 0, 0)
	w.wantNext(t, m, 1, true)
	m.Reserve(0, 0, 0)
	m.Reserve(0, 1, 0)
	w.wantNext(t, m, 0, false)
}

func TestClearOfEachSlot(t *testing.T) { // P10.2
	for slots := 1; slots <= 8; slots++ {
		for n := range 2*slots + 1 {
			for slot := range slots {
				m := filledWorld(t, 2, slots)
				w := afterPublishing(t, m, n)
				used, latest := w.used, w.latest
				w.clear(t, m, slot)
				if slot == slots-1 {
					used, latest = 0, 0
				}
				if g := w.guard.Latest(); g != latest {
					t.Fatalf("%d slots, %d published, Clear of %d: the latest is %d; want %d", slots, n, slot, g, latest)
				}
				w.wantNext(t, m, used%slots, used < slots)
			}
		}
	}
}

func TestClearOfAnotherSlotThanTheLast(t *testing.T) { // P10.2
	m := newWorld(t, 1, 4)
	w := afterPublishing(t, m, 2)
	w.clear(t, m, 0) // used
	w.clear(t, m, 1)
	w.clear(t, m, 2) // not used
	if l := reserved(m, 0); !slices.Equal(l, []uint64{0, 0, 0, 0}) || w.guard.Latest() != 11 {
		t.Errorf("%v is reserved, the latest %d; want 11", l, w.guard.Latest())
	}
	w.wantNext(t, m, 2, true)
	w.wantNext(t, m, 3, true)
	w.wantNext(t, m, 0, false)
}

func TestClearOfTheLastSlot(t *testing.T) { // P10.2
	m := newWorld(t, 1, 4)
	w := afterPublishing(t, m, 2)
	w.clear(t, m, 3) // not used
	if l := reserved(m, 0); !slices.Equal(l, []uint64{10, 11, 0, 0}) || w.guard.Latest() != 0 {
		t.Errorf("%v is reserved, the latest %d; want 0", l, w.guard.Latest())
	}
	for slot := range 4 {
		w.wantNext(t, m, slot, true)
	}
	w.clear(t, m, 3) // used
	w.wantNext(t, m, 0, true)
	w.wantNext(t, m, 1, true)
}

func TestClearOfTheOnlySlot(t *testing.T) { // P10.2
	m := newWorld(t, 1, 1)
	w := afterPublishing(t, m, 1)
	w.wantNext(t, m, 0, false)
	w.clear(t, m, 0)
	w.wantNext(t, m, 0, true)
	w.wantNext(t, m, 0, false)
	w.clear(t, m, 0)
	w.clear(t, m, 0)
	w.check(t, m)
	w.wantNext(t, m, 0, true)
}

// TestClearOfANewGuard clears words that another guard of the thread left behind.
func TestClearOfANewGuard(t *testing.T) { // P10.2
	m, w := filledWorld(t, 2, 3), watch(t, 1)
	for slot := range 3 {
		w.clear(t, m, slot)
	}
	if l := reserved(m, 1); !slices.Equal(l, []uint64{0, 0, 0}) {
		t.Errorf("%v is reserved", l)
	}
	w.wantNext(t, m, 0, true)
}

// call is one of those that a script has; it is done by one guard, in one world.
type call func(t *testing.T, m *mem.Mem, w *watched)

func calls(slots int) []call {
	l := []call{
		func(t *testing.T, m *mem.Mem, w *watched) { w.check(t, m) },
		func(t *testing.T, m *mem.Mem, w *watched) { w.publish(t, m, 1) },
		func(t *testing.T, m *mem.Mem, w *watched) { w.publish(t, m, 2) },
		func(t *testing.T, m *mem.Mem, w *watched) { m.Tick() },
	}
	for slot := -1; slot <= slots; slot++ {
		l = append(l, func(t *testing.T, m *mem.Mem, w *watched) { w.clear(t, m, slot) })
	}
	return l
}

// TestEachScript tries each row of five calls.
func TestEachScript(t *testing.T) { // P10.1, P10.2
	for slots := 1; slots <= 3; slots++ {
		l := calls(slots)
		n := len(l)
		for script := range n * n * n * n * n {
			m, w := newWorld(t, 2, slots), watch(t, 1)
			for range 5 {
				l[script%n](t, m, w)
				script /= n
			}
		}
	}
}

// wantStanding holds the thread's reservations against the eras that were published since the last one that told false.
func wantStanding(t *testing.T, m *mem.Mem, thread int, since []uint64) {
	t.Helper()
	for _, era := range since {
		if l := reserved(m, thread); !slices.Contains(l, era) {
			t.Fatalf("%v is reserved; want %v among them", l, since)
		}
	}
}

func TestErasStandAsLongAsPublishTellsTrue(t *testing.T) { // P10.3
	for slots := 1; slots <= 8; slots++ {
		for n := range 3*slots + 1 {
			m, g, era := newWorld(t, 3, slots), guard.New(1), uint64(0)
			for range 3 {
				var since []uint64
				for i := range n {
					era++
					if !g.Publish(m, era) {
						since = nil
					} else if i == slots {
						t.Fatalf("%d slots have been enough for %d eras", slots, i+1)
					}
					since = append(since, era)
					wantStanding(t, m, 1, since)
				}
				for slot := range slots {
					g.Clear(m, slot)
				}
				if l := reserved(m, 1); slices.Max(l) != 0 {
					t.Fatalf("%v is reserved behind all were cleared", l)
				}
			}
		}
	}
}

func TestPublishTellsFalseAsSeldomAsItCan(t *testing.T) { // P10.3
	for slots := 1; slots <= 8; slots++ {
		m, g, row := newWorld(t, 1, slots), guard.New(0), 0
		for i := range 40 {
			row++
			if g.Publish(m, uint64(i)) {
				continue
			}
			if row != slots+1 {
				t.Fatalf("%d slots: told false at the era %d, the number %d", slots, i, row)
			}
			row = 1
		}
	}
}

func TestThreadsKeepApart(t *testing.T) { // P10.2, P10.3
	for threads := 2; threads <= 8; threads++ {
		for slots := 1; slots <= 8; slots++ {
			m := newWorld(t, threads, slots)
			for thread := range threads {
				w := watch(t, thread)
				for i := range 2*slots + 1 {
					w.publish(t, m, uint64(100*thread+i+1))
				}
			}
			for thread := range threads {
				last := uint64(100*thread + 2*slots + 1)
				if l := reserved(m, thread); l[0] != last || slices.Min(l) <= uint64(100*thread) {
					t.Fatalf("%v is reserved by the thread %d", l, thread)
				}
			}
		}
	}
}

func TestGuardsAtOnce(t *testing.T) { // P10.2, P10.3, R6
	m := newWorld(t, 3, 3)
	l := []*watched{watch(t, 0), watch(t, 1), watch(t, 2), watch(t, 1)}
	for i := range 200 {
		w := l[i*i%7%len(l)]
		switch i % 5 {
		case 0, 1, 3:
			w.publish(t, m, uint64(i))
		case 2:
			w.check(t, m)
		case 4:
			w.clear(t, m, i%3)
		}
		for _, w := range l {
			w.wantTold(t, "another guard")
		}
	}
}

func TestThreadsThatTheWorldHasNot(t *testing.T) { // P10.2, R1
	for _, threads := range []int{1, 2, 8} {
		for slots := 1; slots <= 8; slots++ {
			for _, thread := range wrongs(threads) {
				if thread >= 0 && thread < threads {
					continue
				}
				m, w := filledWorld(t, threads, slots), watch(t, thread)
				for i := range 2*slots + 1 {
					if stay := w.publish(t, m, uint64(1000-i%2)); stay != (i == 0 || i%slots != 0) {
						t.Fatalf("thread %d of %d, Publish number %d: %v", thread, threads, i+1, stay)
					}
					w.check(t, m)
				}
				for slot := range slots {
					w.clear(t, m, slot)
				}
				w.check(t, m)
				if !w.publish(t, m, 1) || w.guard.Thread() != thread {
					t.Fatalf("thread %d of %d, behind all were cleared", thread, threads)
				}
			}
		}
	}
}

func TestClearOfWhatIsNoSlot(t *testing.T) { // P10.2, R1
	for _, threads := range []int{1, 2, 8} {
		for slots := 1; slots <= 8; slots++ {
			for _, slot := range wrongs(slots) {
				if slot >= 0 && slot < slots {
					continue
				}
				m := filledWorld(t, threads, slots)
				w := afterPublishing(t, m, slots)
				latest := w.latest
				w.clear(t, m, slot)
				if g := w.guard.Latest(); g != latest {
					t.Fatalf("Clear of %d, of %d slots: the latest is %d; want %d", slot, slots, g, latest)
				}
				w.wantNext(t, m, 0, false)
			}
		}
	}
}

func TestOneGuardInWorldsOfDifferentSlots(t *testing.T) { // P10.2, R1
	great, small := newWorld(t, 2, 8), newWorld(t, 2, 2)
	w := afterPublishing(t, great, 5)
	w.wantNext(t, small, 0, false) // five are used, of two
	w.wantNext(t, great, 1, true)
	w.wantNext(t, small, 0, false)
	w.wantNext(t, small, 1, true)
	w.wantNext(t, great, 2, true)
	w.clear(t, great, 1) // not the great world's last one
	w.wantNext(t, great, 3, true)
	w.clear(t, small, 7) // no slot of the small world's
	w.wantNext(t, great, 4, true)
	w.clear(t, small, 1)
	w.check(t, small)
	w.wantNext(t, great, 0, true)
	w.clear(t, great, 7)
	w.wantNext(t, small, 0, true)
}

// TestScriptsInWorldsOfDifferentSlots has three bits of a script say what is done: in which world, what, and of which era or slot.
func TestScriptsInWorldsOfDifferentSlots(t *testing.T) { // P10.1, P10.2, R1
	for script := range 1 << 15 {
		l := []*mem.Mem{newWorld(t, 1, 1), newWorld(t, 2, 3)}
		w := watch(t, 0)
		for range 5 {
			m, publishes, bit := l[script&1], script>>1&1 == 0, script>>2&1
			if publishes {
				w.publish(t, m, uint64(bit))
			} else {
				w.clear(t, m, m.Config().Slots-1-bit)
			}
			w.check(t, m)
			script >>= 3
		}
	}
}
