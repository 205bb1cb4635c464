package retire_test

import (
	"fmt"
	"math"
	"slices"
	"testing"

	"stepstone/api"
	"stepstone/bank"
	"stepstone/build"
	"stepstone/cover"
	"stepstone/find"
	"stepstone/guard"
	"stepstone/help"
	"stepstone/mem"
	"stepstone/retire"
)

const (
	greatestWord = uint64(math.MaxUint64)
	mark         = uint64(1) << 62
	head         = uint64(1) << 63 // index 0, generation 0
)

// The fields, as chapter 4 counts them; next is that of level 0.
const (
	keyField    = 1
	birthField  = 3
	tallField   = 4
	ownersField = 5
	nextField   = 6
)

// Handles and cells are worked out by the words of chapters 1 and 4, so that they don't err along with the packages.

func named(index, gen int) uint64 { return 1<<63 | uint64(gen)<<32 | uint64(index) }

func valid(w uint64) bool { return w>>63 == 1 }

func marked(w uint64) bool { return w>>62&1 == 1 }

const clockCell = 0

// cellOf tells the cell of a field of the slot of h's index, -1 if there is none.
func cellOf(c api.Config, h uint64, field int) int {
	index := int(uint32(h))
	if index > c.Cap || field >= 6+c.Height {
		return -1
	}
	return 1 + c.Threads*c.Slots + index*(6+c.Height) + field
}

func reservation(c api.Config, thread, slot int) int { return 1 + thread*c.Slots + slot }

// node is linked on the levels from 0 to linked - 1; the bits of deleted say on which its Next has the mark, from level 0 on.
type node struct {
	key     uint64
	linked  int
	deleted int
}

func (n node) deletedOn(level int) bool { return n.deleted>>level&1 == 1 }

// everywhere has the mark on each level that any world has.
const everywhere = 63

func config(height, most int) api.Config {
	return api.Config{Threads: 2, Slots: 2, Cap: most, Height: height, Keep: 1, Every: 1, Last: 9}
}

// genOf lets the nodes be of several generations.
func genOf(index int) int { return index % 3 }

// linked tells the handle of the node at that place of the list, from 1 on, as worldOf has them.
func linked(place int) uint64 { return named(place, genOf(place)) }

// spare is the handle of the slot behind those of that many nodes, which worldOf leaves free.
func spare(nodes int) uint64 { return linked(nodes + 1) }

// bornAt lets each node be of another era.
func bornAt(place int) uint64 { return uint64(1000 + place) }

// worldOf has these nodes, of two owners each, in the slots from 1 on, linked in their order on each level, and one slot more.
func worldOf(t *testing.T, height int, nodes ...node) *mem.Mem {
	t.Helper()
	c := config(height, len(nodes)+1)
	m, e := mem.New(c)
	if e != api.OK {
		t.Fatalf("New(%+v): error %d", c, e)
	}
	cells := m.Bank().Cells()
	for i, n := range nodes {
		h := linked(i + 1)
		cells[cellOf(c, h, 0)] = uint64(genOf(i+1))<<2 | 1
		cells[cellOf(c, h, keyField)] = n.key
		cells[cellOf(c, h, birthField)] = bornAt(i + 1)
		cells[cellOf(c, h, tallField)] = uint64(height)
		cells[cellOf(c, h, ownersField)] = 2
	}
	for level := range height {
		last := cellOf(c, head, nextField+level)
		for i, n := range nodes {
			own := cellOf(c, linked(i+1), nextField+level)
			if n.deletedOn(level) {
				cells[own] = mark
			}
			if n.linked > level {
				cells[last] |= linked(i + 1)
				last = own
			}
		}
	}
	return worldWith(t, c, cells)
}

// with is the world where a field has this word; that is no access.
func with(t *testing.T, m *mem.Mem, h uint64, field int, w uint64) *mem.Mem {
	t.Helper()
	cells := m.Bank().Cells()
	cells[cellOf(m.Config(), h, field)] = w
	return worldWith(t, m.Config(), cells)
}

// lastOf is the world where one owner is left of the node at that place.
func lastOf(t *testing.T, m *mem.Mem, place int) *mem.Mem {
	t.Helper()
	return with(t, m, linked(place), ownersField, 1)
}

func worldWith(t *testing.T, c api.Config, cells []uint64) *mem.Mem {
	t.Helper()
	m, e := mem.Of(c, cells)
	if e != api.OK {
		t.Fatalf("Of(%+v): error %d", c, e)
	}
	return m
}

// has tells what a field has without an access.
func has(m *mem.Mem, h uint64, field int) uint64 {
	cell := cellOf(m.Config(), h, field)
	if cell < 0 {
		return 0
	}
	return m.Bank().Cells()[cell]
}

// names tells what the node names on the level, without an access.
func names(m *mem.Mem, h uint64, level int) uint64 { return has(m, h, nextField+level) }

func loading(m *mem.Mem, h uint64, field int) bank.Access {
	w := has(m, h, field)
	cell := cellOf(m.Config(), h, field)
	return bank.Access{Kind: bank.Loads, Cell: cell, Via: h &^ mark, Old: w, New: w, Done: cell >= 0}
}

func adding(m *mem.Mem, h uint64, field int, by uint64) bank.Access {
	a := loading(m, h, field)
	a.Kind = bank.Adds
	if a.Cell >= 0 {
		a.New += by
	}
	return a
}

func clocking(m *mem.Mem) bank.Access {
	now := m.Bank().Cells()[clockCell]
	return bank.Access{Kind: bank.Loads, Cell: clockCell, Old: now, New: now, Done: true}
}

// wantAccess does something that is to be just that one access of the world.
func wantAccess(t *testing.T, what any, m *mem.Mem, want bank.Access, do func()) {
	t.Helper()
	had, count := m.Bank().Cells(), m.Bank().Count()
	do()
	if n := m.Bank().Count() - count; n != 1 {
		t.Fatalf("%v: %d accesses; want 1", what, n)
	}
	if a := m.Bank().Last(); a != want {
		t.Fatalf("%v: the access %+v; want %+v", what, a, want)
	}
	if want.Cell >= 0 {
		had[want.Cell] = want.New
	}
	if cells := m.Bank().Cells(); !slices.Equal(cells, had) {
		t.Fatalf("%v: cells %v; want %v", what, cells, had)
	}
}

// What comes next, by the words of the chapter.
const (
	leave  = "leave"
	toFind = "find"
	birth  = "birth"
	now    = "now"
	over   = "over"
)

// watched is a retire with its guard, and what it should do by the words of the chapter. What a find does is asked of another find, which goes on beside it in a copy of the world.
type watched struct {
	retire *retire.Retire
	guard  *guard.Guard
	h, k   uint64
	next   string
	last   bool
	entry  cover.Entry // behind the end of the last one
	find   *find.Find
	beside *guard.Guard
	trace  []string // the steps, all of the find as one
}

func watch(t *testing.T, m *mem.Mem, h, k uint64, thread int) *watched {
	t.Helper()
	w := &watched{retire: retire.New(h, k), guard: guard.New(thread), h: h, k: k, next: leave, find: find.New(k), beside: guard.New(thread)}
	w.wantTold(t, m)
	return w
}

func (w *watched) String() string {
	return fmt.Sprintf("retire of %#x, key %d: %s behind %v", w.h, w.k, w.next, w.trace)
}

// wants tells the access that the next Step is to be.
func (w *watched) wants(t *testing.T, m *mem.Mem) bank.Access {
	switch w.next {
	case leave:
		return adding(m, w.h, ownersField, greatestWord)
	case birth:
		return loading(m, w.h, birthField)
	case now:
		return clocking(m)
	}
	other := worldWith(t, m.Config(), m.Bank().Cells())
	w.find.Step(other, w.beside)
	return other.Bank().Last()
}

// goesOn takes down what came of the access.
func (w *watched) goesOn(a bank.Access) {
	if len(w.trace) == 0 || w.next != toFind || w.trace[len(w.trace)-1] != toFind {
		w.trace = append(w.trace, w.next)
	}
	switch w.next {
	case leave:
		w.next = over
		if a.Old == 1 {
			w.last, w.next = true, toFind
		}
	case toFind:
		if w.find.Done() {
			w.next = birth
		}
	case birth:
		w.entry, w.next = cover.Entry{Node: w.h &^ mark, Birth: a.Old}, now
	case now:
		w.entry.Retired, w.next = a.Old, over
	}
}

func (w *watched) step(t *testing.T, m *mem.Mem) {
	t.Helper()
	if w.next == over {
		w.wantIdle(t, m)
		return
	}
	a := w.wants(t, m)
	wantAccess(t, w, m, a, func() { w.retire.Step(m, w.guard) })
	w.goesOn(a)
	w.wantTold(t, m)
}

// wantTold holds what the retire tells against what it should, and that telling is no access.
func (w *watched) wantTold(t *testing.T, m *mem.Mem) {
	t.Helper()
	count := m.Bank().Count()
	done := w.next == over
	if w.retire.Done() != done {
		t.Fatalf("%s: Done %v", w, w.retire.Done())
	}
	var want cover.Entry
	if done && w.last {
		want = w.entry
	}
	if e, is := w.retire.Entry(); e != want || is != (done && w.last) {
		t.Fatalf("%s: the entry %+v, %v; want %+v", w, e, is, want)
	}
	if w.guard.Latest() != w.beside.Latest() {
		t.Fatalf("%s: the latest is %d; want %d", w, w.guard.Latest(), w.beside.Latest())
	}
	if m.Bank().Count() != count {
		t.Fatalf("%s: what is told was an access", w)
	}
}

func (w *watched) wantIdle(t *testing.T, m *mem.Mem) {
	t.Helper()
	had, count := m.Bank().Cells(), m.Bank().Count()
	for range 3 {
		w.retire.Step(m, w.guard)
	}
	if m.Bank().Count() != count || !slices.Equal(m.Bank().Cells(), had) {
		t.Fatalf("%s: a Step behind the end did something", w)
	}
	w.wantTold(t, m)
}

// toEnd steps to the end, which is to come within that many steps.
func (w *watched) toEnd(t *testing.T, m *mem.Mem, most int) {
	t.Helper()
	for steps := 0; w.next != over; steps++ {
		if steps == most {
			t.Fatalf("%s: no end in %d steps", w, most)
		}
		w.step(t, m)
	}
	w.wantIdle(t, m)
}

// to steps until that is next.
func (w *watched) to(t *testing.T, m *mem.Mem, next string) {
	t.Helper()
	for w.next != next {
		if w.next == over {
			t.Fatalf("%s: did not come to %s", w, next)
		}
		w.step(t, m)
	}
}

func (w *watched) wantTrace(t *testing.T, want ...string) {
	t.Helper()
	if !slices.Equal(w.trace, want) {
		t.Errorf("%s: want the steps %v", w, want)
	}
}

// wantRow tells that on the level these are linked, from the head on, and no other.
func wantRow(t *testing.T, what any, m *mem.Mem, level int, want ...uint64) {
	t.Helper()
	if l := row(m, level); !slices.Equal(l, want) {
		t.Fatalf("%v: level %d has %#x; want %#x", what, level, l, want)
	}
}

// row tells what is linked on a level, up to more than any of these worlds has.
func row(m *mem.Mem, level int) []uint64 {
	var l []uint64
	for h := names(m, head, level); valid(h) && len(l) < 20; h = names(m, h, level) &^ mark {
		l = append(l, h)
	}
	return l
}

// wantUnlinked tells that the node is linked on no level.
func wantUnlinked(t *testing.T, what any, m *mem.Mem, h uint64) {
	t.Helper()
	for level := range m.Config().Height {
		if slices.Contains(row(m, level), h) {
			t.Fatalf("%v: linked on level %d still", what, level)
		}
	}
}

// stepsAlone is more than a retire alone takes in any of these worlds.
const stepsAlone = 500

func TestExamples(t *testing.T) { // P14.1, P14.2
	m := worldOf(t, 1, node{4, 1, 1})
	for owners := 2; owners > 0; owners-- {
		r, g, count := retire.New(linked(1), 4), guard.New(0), m.Bank().Count()
		if _, is := r.Entry(); is || r.Done() {
			t.Errorf("%d owners: Done %v, an entry %v at first", owners, r.Done(), is)
		}
		for i := 0; i < stepsAlone && !r.Done(); i++ {
			r.Step(m, g)
		}
		if n := m.Bank().Count() - count; !r.Done() || n == 1 != (owners == 2) {
			t.Errorf("%d owners: Done %v behind %d steps", owners, r.Done(), n)
		}
		if _, is := r.Entry(); is != (owners == 1) {
			t.Errorf("%d owners: an entry %v", owners, is)
		}
	}
}

// TestEachStep writes each access of a retire down, by no model and no find.
func TestEachStep(t *testing.T) { // P14.1, P14.2
	m := lastOf(t, worldOf(t, 2, node{2, 2, 0}, node{4, 2, 3}, node{6, 1, 0}), 2)
	c := m.Config()
	a, x, z := linked(1), linked(2), linked(3)
	const era = 1
	clock := bank.Access{Kind: bank.Loads, Cell: clockCell, Old: era, New: era, Done: true}
	loads := func(h uint64, field int, w uint64) bank.Access {
		return bank.Access{Kind: bank.Loads, Cell: cellOf(c, h, field), Via: h, Old: w, New: w, Done: true}
	}
	unlinks := func(field int, behind uint64) bank.Access {
		return bank.Access{Kind: bank.Swaps, Cell: cellOf(c, a, field), Via: a, Old: x, New: behind, Done: true}
	}
	r, g := retire.New(x, 4), guard.New(1)
	for i, want := range []bank.Access{
		{Kind: bank.Adds, Cell: cellOf(c, x, ownersField), Via: x, Old: 1, New: 0, Done: true},
		loads(head, nextField+1, a),
		clock,
		{Kind: bank.Stores, Cell: reservation(c, 1, 0), New: era, Done: true},
		loads(head, nextField+1, a),
		clock,
		loads(a, nextField+1, x),
		loads(a, keyField, 2),
		loads(a, nextField+1, x),
		clock,
		loads(x, nextField+1, mark),
		unlinks(nextField+1, 0),
		loads(a, nextField+1, 0),
		loads(a, nextField, x),
		clock,
		loads(x, nextField, z|mark),
		unlinks(nextField, z),
		loads(a, nextField, z),
		clock,
		loads(z, nextField, 0),
		loads(z, keyField, 6),
		loads(x, birthField, 1002),
		clock,
	} {
		if _, is := r.Entry(); is || r.Done() {
			t.Fatalf("step %d: Done %v, an entry %v", i, r.Done(), is)
		}
		wantAccess(t, fmt.Sprintf("step %d", i), m, want, func() { r.Step(m, g) })
	}
	if e, is := r.Entry(); !r.Done() || !is || e != (cover.Entry{Node: x, Birth: 1002, Retired: 1}) {
		t.Errorf("at the end: Done %v, the entry %+v, %v", r.Done(), e, is)
	}
}

// TestOwners has any word of owners: who is told 1 was the last one, and nobody else.
func TestOwners(t *testing.T) { // P14.1, P14.2
	for _, owners := range []uint64{0, 1, 2, 3, 4, 255, 257, 1 << 32, 1<<32 + 1, 1<<62 + 1, 1 << 63, 1<<63 + 1, greatestWord - 1, greatestWord} {
		for height := 1; height <= 6; height++ {
			m := with(t, worldOf(t, height, node{4, height, everywhere}), linked(1), ownersField, owners)
			words := m.Bank().Cells()
			w := watch(t, m, linked(1), 4, 0)
			w.toEnd(t, m, stepsAlone)
			if has(m, linked(1), ownersField) != owners-1 {
				t.Errorf("%d owners: %d behind it", owners, has(m, linked(1), ownersField))
			}
			if owners == 1 {
				w.wantTrace(t, leave, toFind, birth, now)
				continue
			}
			words[cellOf(m.Config(), linked(1), ownersField)]--
			if m.Bank().Count() != 1 || !slices.Equal(m.Bank().Cells(), words) {
				t.Errorf("%d owners: %d accesses, leaves %v; want %v", owners, m.Bank().Count(), m.Bank().Cells(), words)
			}
		}
	}
}

// alone works out by the words themselves what a find of k alone leaves.
func alone(c api.Config, words []uint64, thread int, k uint64) {
	pred := head
	for level := c.Height - 1; level >= 0; level-- {
		for {
			from := cellOf(c, pred, nextField+level)
			x := words[from]
			if !valid(x) {
				break
			}
			if thread < c.Threads {
				words[reservation(c, thread, 0)] = words[clockCell]
			}
			if behind := words[cellOf(c, x, nextField+level)]; marked(behind) {
				words[from] = behind &^ mark
				continue
			}
			if words[cellOf(c, x, keyField)] >= k {
				break
			}
			pred = x
		}
	}
}

// wantAlone lets the last owner of the node at that place go alone, and holds what it leaves against the words.
func wantAlone(t *testing.T, m *mem.Mem, place int, k uint64) {
	t.Helper()
	m = lastOf(t, m, place)
	words := m.Bank().Cells()
	w := watch(t, m, linked(place), k, 1)
	w.toEnd(t, m, stepsAlone)
	w.wantTrace(t, leave, toFind, birth, now)
	words[cellOf(m.Config(), linked(place), ownersField)] = 0
	alone(m.Config(), words, 1, k)
	if !slices.Equal(m.Bank().Cells(), words) {
		t.Fatalf("%s: leaves %v; want %v", w, m.Bank().Cells(), words)
	}
	want := cover.Entry{Node: linked(place), Birth: bornAt(place), Retired: words[clockCell]}
	if e, is := w.retire.Entry(); e != want || !is {
		t.Fatalf("%s: the entry %+v, %v; want %+v", w, e, is, want)
	}
	wantUnlinked(t, w, m, linked(place))
}

// listOf has the others linked on as many levels as heights says and one, and at that place one that is linked on that many levels, and deleted on all.
func listOf(heights []int, place, levels int) []node {
	var l []node
	for _, n := range heights {
		l = append(l, node{linked: n + 1})
	}
	l = slices.Insert(l, place-1, node{linked: levels, deleted: everywhere})
	for i := range l {
		l[i].key = uint64(10 * (i + 1))
	}
	return l
}

// TestAloneOverAllNodes has each place among others of all heights, and the node linked on each number of levels, from none on.
func TestAloneOverAllNodes(t *testing.T) { // P14.1, P14.2, P14.3
	for height := 1; height <= 4; height++ {
		for others := range 4 {
			scripts(others, height, func(heights []int) {
				for place := 1; place <= others+1; place++ {
					for levels := range height + 1 {
						l := listOf(heights, place, levels)
						wantAlone(t, worldOf(t, height, l...), place, l[place-1].key)
					}
				}
			})
		}
	}
}

func TestAloneInAWorldOfSixLevels(t *testing.T) { // P14.1, P14.2, P14.3
	for place := 1; place <= 5; place++ {
		for levels := range 7 {
			l := listOf([]int{5, 0, 3, 5}, place, levels)
			wantAlone(t, worldOf(t, 6, l...), place, l[place-1].key)
		}
	}
}

func TestAloneAmongDeletedOnes(t *testing.T) { // P14.1, P14.3
	for deleted := range 1 << 4 {
		for place := 1; place <= 5; place++ {
			l := listOf([]int{2, 0, 1, 2}, place, 3)
			other := 0
			for i := range l {
				if i != place-1 {
					l[i].deleted = deleted >> other & 1 * everywhere
					other++
				}
			}
			wantAlone(t, worldOf(t, 3, l...), place, l[place-1].key)
		}
	}
}

func TestKeysAtTheEnds(t *testing.T) { // P14.1, P14.3
	for place := 1; place <= 5; place++ {
		l := []node{{0, 1, 0}, {1, 3, 0}, {1 << 63, 1, 0}, {greatestWord - 1, 3, 0}, {greatestWord, 1, 0}}
		l[place-1].deleted = everywhere
		wantAlone(t, worldOf(t, 3, l...), place, l[place-1].key)
		l[place-1].linked = 3
		wantAlone(t, worldOf(t, 3, l...), place, l[place-1].key)
	}
	for _, k := range []uint64{0, 1, greatestWord} {
		wantAlone(t, worldOf(t, 3, node{k, 3, everywhere}), 1, k)
	}
}

// TestAnotherOneOfItsKey was put again behind the node, or ahead of its being unlinked on the levels above: it stays.
func TestAnotherOneOfItsKey(t *testing.T) { // P14.1, P14.3
	for levels := 1; levels <= 3; levels++ {
		for others := 1; others <= 3; others++ {
			m := worldOf(t, 3, node{10, 3, 0}, node{20, levels, everywhere}, node{20, others, 0}, node{30, 3, 0})
			wantAlone(t, m, 2, 20)
		}
	}
}

// TestNotDeleted retires what is linked still: nothing but the owners is asked for.
func TestNotDeleted(t *testing.T) { // P14.1, P14.2
	m := lastOf(t, worldOf(t, 3, node{10, 3, 0}, node{20, 2, 0}), 2)
	w := watch(t, m, linked(2), 20, 0)
	w.toEnd(t, m, stepsAlone)
	w.wantTrace(t, leave, toFind, birth, now)
	wantRow(t, w, m, 1, linked(1), linked(2))
	wantRow(t, w, m, 0, linked(1), linked(2))
}

// TestDeletedOnSomeLevels unlinks it on these alone.
func TestDeletedOnSomeLevels(t *testing.T) { // P14.1
	m := lastOf(t, worldOf(t, 3, node{20, 3, 6}), 1)
	w := watch(t, m, linked(1), 20, 0)
	w.toEnd(t, m, stepsAlone)
	wantRow(t, w, m, 2)
	wantRow(t, w, m, 1)
	wantRow(t, w, m, 0, linked(1))
}

// TestAKeyThatIsNotTheNodes asks New's k alone: the node's own key is not asked for.
func TestAKeyThatIsNotTheNodes(t *testing.T) { // P14.1, R1
	for _, x := range []struct {
		k    uint64
		gone bool
	}{{0, false}, {10, false}, {11, true}, {19, true}, {20, true}, {21, true}, {30, true}, {greatestWord, true}} {
		m := lastOf(t, worldOf(t, 2, node{10, 2, 0}, node{20, 2, 3}, node{30, 2, 0}), 2)
		w := watch(t, m, linked(2), x.k, 0)
		w.toEnd(t, m, stepsAlone)
		if on := slices.Contains(row(m, 1), linked(2)); on == x.gone {
			t.Errorf("%s: linked on level 1: %v", w, on)
		}
		if e, is := w.retire.Entry(); !is || e != (cover.Entry{Node: linked(2), Birth: 1002, Retired: 1}) {
			t.Errorf("%s: the entry %+v, %v", w, e, is)
		}
	}
}

func TestHandleWithAMark(t *testing.T) { // P14.1, P14.2
	for _, owners := range []uint64{1, 2} {
		m := with(t, worldOf(t, 2, node{20, 2, 3}), linked(1), ownersField, owners)
		w := watch(t, m, linked(1)|mark, 20, 0)
		w.toEnd(t, m, stepsAlone)
		var want cover.Entry
		if owners == 1 {
			want = cover.Entry{Node: linked(1), Birth: 1001, Retired: 1}
			wantUnlinked(t, w, m, linked(1))
		}
		if e, is := w.retire.Entry(); e != want || is != (owners == 1) {
			t.Errorf("%s: the entry %+v, %v; want %+v", w, e, is, want)
		}
	}
}

// TestTheClockTicks ahead of each step in turn: the entry has the era of the last step, whatever the guard has published.
func TestTheClockTicks(t *testing.T) { // P14.1, P14.2
	for at := range 40 {
		for ticks := 1; ticks <= 5; ticks++ {
			m := lastOf(t, worldOf(t, 2, node{10, 2, 0}, node{20, 2, 3}, node{30, 2, 0}), 2)
			w := watch(t, m, linked(2), 20, 1)
			for range at {
				w.step(t, m)
			}
			ahead := w.next != over
			for range ticks {
				m.Tick()
				w.step(t, m)
			}
			w.toEnd(t, m, stepsAlone)
			e, _ := w.retire.Entry()
			if r := e.Retired; ahead && r < 2 || !ahead && r != 1 || r > uint64(1+ticks) {
				t.Errorf("%d ticks ahead of step %d: the entry %+v", ticks, at, e)
			}
			wantUnlinked(t, w, m, linked(2))
		}
	}
}

// TestTheEraBehindTheBirth ticks the clock between the last two steps.
func TestTheEraBehindTheBirth(t *testing.T) { // P14.1, P14.2
	for _, now64 := range []uint64{0, 1, 7, 1 << 40, greatestWord} {
		m := lastOf(t, worldOf(t, 2, node{20, 2, 3}), 1)
		w := watch(t, m, linked(1), 20, 1)
		w.to(t, m, now)
		cells := m.Bank().Cells()
		cells[clockCell] = now64
		m = worldWith(t, m.Config(), cells)
		w.step(t, m)
		if e, is := w.retire.Entry(); !is || e != (cover.Entry{Node: linked(1), Birth: 1001, Retired: now64}) {
			t.Errorf("%s: at the era %d: the entry %+v, %v", w, now64, e, is)
		}
	}
}

// TestTheBirthBehindTheFind changes the Birth ahead of each step in turn: what counts is what it is behind the find's end.
func TestTheBirthBehindTheFind(t *testing.T) { // P14.1, P14.2
	for at := range 40 {
		m := lastOf(t, worldOf(t, 2, node{10, 2, 0}, node{20, 2, 3}), 2)
		w := watch(t, m, linked(2), 20, 0)
		for range at {
			w.step(t, m)
		}
		want := bornAt(2)
		if w.next == leave || w.next == toFind || w.next == birth {
			want = greatestWord
		}
		m.Store(linked(2), birthField, greatestWord)
		w.toEnd(t, m, stepsAlone)
		if e, is := w.retire.Entry(); !is || e.Birth != want {
			t.Errorf("%s: changed ahead of step %d: the entry %+v, %v; want the birth %d", w, at, e, is, want)
		}
	}
}

// TestOwnersComeAndGo changes the Owners behind the first step: they are not asked for again.
func TestOwnersComeAndGo(t *testing.T) { // P14.1, P14.2
	for _, owners := range []uint64{1, 2} {
		m := with(t, worldOf(t, 2, node{20, 2, 3}), linked(1), ownersField, owners)
		w := watch(t, m, linked(1), 20, 0)
		w.step(t, m)
		m.Store(linked(1), ownersField, 3-owners)
		w.toEnd(t, m, stepsAlone)
		if _, is := w.retire.Entry(); is != (owners == 1) {
			t.Errorf("%s: %d owners: an entry %v", w, owners, is)
		}
	}
}

// wantFirstRead does a step that is to be the first one of a find that begins anew.
func (w *watched) wantFirstRead(t *testing.T, m *mem.Mem) {
	t.Helper()
	want := w.wants(t, m)
	if want != loading(m, head, nextField+m.Config().Height-1) {
		t.Fatalf("%s: the find begins with %+v", w, want)
	}
	wantAccess(t, w, m, want, func() { w.retire.Step(m, w.guard) })
	w.goesOn(want)
}

// TestTheFindBeginsAnew has the pred deleted while the find stands on it.
func TestTheFindBeginsAnew(t *testing.T) { // P14.1, P14.3
	m := lastOf(t, worldOf(t, 2, node{10, 2, 0}, node{20, 2, 3}, node{30, 2, 0}), 2)
	w := watch(t, m, linked(2), 20, 0)
	w.step(t, m)
	w.wantFirstRead(t, m)
	for range 6 {
		w.step(t, m)
	}
	if a := m.Bank().Last(); a.Cell != cellOf(m.Config(), linked(1), keyField) {
		t.Fatalf("%s: the access %+v; want the key of the first node", w, a)
	}
	deleteAll(m, linked(1), 1, 0)
	w.step(t, m)
	w.wantFirstRead(t, m)
	w.toEnd(t, m, stepsAlone)
	w.wantTrace(t, leave, toFind, birth, now)
	for level := range 2 {
		wantRow(t, w, m, level, linked(3))
	}
}

// deleteAll deletes the node on the levels from that one down to the other, by the words.
func deleteAll(m *mem.Mem, h uint64, from, to int) {
	for level := from; level >= to; level-- {
		m.Store(h, nextField+level, names(m, h, level)|mark)
	}
}

// TestAgainAndAgain takes the unlinking from the find each time that it came to it.
func TestAgainAndAgain(t *testing.T) { // P14.1, R1
	m := lastOf(t, worldOf(t, 1, node{20, 1, 1}), 1)
	w := watch(t, m, linked(1), 20, 0)
	w.step(t, m)
	for range 40 {
		for m.Bank().Last() != loading(m, linked(1), nextField) {
			w.step(t, m)
		}
		m.Store(head, nextField, 0)
		w.step(t, m)
		if w.next != toFind || m.Bank().Last().Done {
			t.Fatalf("%s: the swap was not lost", w)
		}
		m.Store(head, nextField, linked(1))
	}
	w.toEnd(t, m, stepsAlone)
	wantUnlinked(t, w, m, linked(1))
}

// TestWhatTheFindTells is the retire's as well: of k, and nothing ahead of the find's end.
func TestWhatTheFindTells(t *testing.T) { // P14.1, R1
	m := lastOf(t, worldOf(t, 2, node{10, 2, 0}, node{20, 2, 3}, node{30, 1, 0}), 2)
	r, g := retire.New(linked(2), 20), guard.New(0)
	read := 0
	for i := 0; i < stepsAlone && !r.Done(); i++ {
		if r.At() != read || r.Find.Done() != (r.Succ(0) != 0) || r.Pred(2) != 0 {
			t.Fatalf("ahead of step %d: At %d, Pred %#x, Succ %#x", i, r.At(), r.Pred(0), r.Succ(0))
		}
		r.Step(m, g)
		if a := m.Bank().Last(); a.Kind == bank.Loads && (a.Cell == cellOf(m.Config(), linked(1), nextField) && a.Old != 0) {
			read = m.Bank().Count()
		}
	}
	if r.Pred(0) != linked(1) || r.Succ(0) != linked(3) || r.Key(0) != 30 || r.Pred(1) != linked(1) || r.Succ(1) != 0 {
		t.Errorf("level 0: %#x, %#x, %d; level 1: %#x, %#x", r.Pred(0), r.Succ(0), r.Key(0), r.Pred(1), r.Succ(1))
	}
}

// scripts calls with each row of that many numbers below each.
func scripts(length, each int, call func(script []int)) {
	script := make([]int, length)
	var fill func(i int)
	fill = func(i int) {
		if i == length {
			call(script)
			return
		}
		for n := range each {
			script[i] = n
			fill(i + 1)
		}
	}
	fill(0)
}

// wantOne tells that just one of these was the last one, that its entry is this, and that its node is linked nowhere.
func wantOne(t *testing.T, what any, m *mem.Mem, want cover.Entry, l ...*retire.Retire) {
	t.Helper()
	lasts := 0
	for _, r := range l {
		if !r.Done() {
			t.Fatalf("%v: not Done", what)
		}
		if e, is := r.Entry(); is {
			lasts++
			if e != want {
				t.Fatalf("%v: the entry %+v; want %+v", what, e, want)
			}
		}
	}
	if lasts != 1 || has(m, want.Node, ownersField) != 0 {
		t.Fatalf("%v: %d entries, %d owners are left", what, lasts, has(m, want.Node, ownersField))
	}
	wantUnlinked(t, what, m, want.Node)
}

// TestTwoOwnersInEveryOrder mixes their steps in every order.
func TestTwoOwnersInEveryOrder(t *testing.T) { // P14.1, P14.2, P14.3
	for height := 1; height <= 3; height++ {
		for begun := range 3 {
			scripts(8, 2, func(script []int) {
				m := worldOf(t, height, node{10, height, 0}, node{20, height, everywhere}, node{30, 1, 0})
				a, b := watch(t, m, linked(2), 20, 0), watch(t, m, linked(2), 20, 1)
				l := []*watched{a, b}
				if begun > 0 {
					l[begun-1].step(t, m)
				}
				for _, i := range script {
					l[i].step(t, m)
				}
				a.toEnd(t, m, stepsAlone)
				b.toEnd(t, m, stepsAlone)
				wantOne(t, fmt.Sprintf("%v behind %d", script, begun), m, cover.Entry{Node: linked(2), Birth: 1002, Retired: 1}, a.retire, b.retire)
			})
		}
	}
}

// TestAsManyOwnersAsThereAre has just the one that goes last retire the node, whoever it is.
func TestAsManyOwnersAsThereAre(t *testing.T) { // P14.1, P14.3
	for owners := 1; owners <= 4; owners++ {
		scripts(owners, owners, func(order []int) {
			if l := slices.Clone(order); len(slices.Compact(sorted(l))) < owners {
				return
			}
			m := with(t, worldOf(t, 2, node{20, 2, 3}), linked(1), ownersField, uint64(owners))
			var l []*retire.Retire
			for range owners {
				l = append(l, retire.New(linked(1), 20))
			}
			g := guard.New(0)
			for _, i := range order {
				l[i].Step(m, g)
			}
			for _, i := range order {
				last := i == order[owners-1]
				if l[i].Done() == last {
					t.Fatalf("%v: %d is Done: %v", order, i, l[i].Done())
				}
				for range stepsAlone {
					l[i].Step(m, g)
				}
				if _, is := l[i].Entry(); is != last {
					t.Fatalf("%v: %d has an entry: %v", order, i, is)
				}
			}
			wantOne(t, order, m, cover.Entry{Node: linked(1), Birth: 1001, Retired: 1}, l...)
		})
	}
}

func sorted(l []int) []int {
	slices.Sort(l)
	return l
}

// goes is an owner with what it does ahead of its retire.
type goes struct {
	retire *retire.Retire
	step   func(m *mem.Mem)
}

// putting links the node on its higher levels, and then goes.
func putting(h, k uint64, tall, thread int) goes {
	b, r, g := build.New(h, k, tall), retire.New(h, k), guard.New(thread)
	return goes{r, func(m *mem.Mem) {
		if !b.Done() {
			b.Step(m, g)
			return
		}
		r.Step(m, g)
	}}
}

// deleting deletes the node on all its levels, and then goes.
func deleting(h, k uint64, thread int) goes {
	a, r, g := help.New(h), retire.New(h, k), guard.New(thread)
	return goes{r, func(m *mem.Mem) {
		if !a.Done() {
			a.Step(m)
			return
		}
		r.Step(m, g)
	}}
}

// bothGo has a node be put and deleted at once, whose steps come as the script says, once each has come so far; then each goes alone, in that order.
func bothGo(t *testing.T, height int, begun [2]int, script []int, order [2]int) {
	t.Helper()
	m := worldOf(t, height, node{10, 1 + height/2, 0}, node{20, 1, 0}, node{30, height, 0})
	l := [2]goes{putting(linked(2), 20, height, 0), deleting(linked(2), 20, 1)}
	for i, n := range begun {
		for range n {
			l[i].step(m)
		}
	}
	for _, i := range script {
		l[i].step(m)
	}
	for _, i := range order {
		for n := 0; n < stepsAlone && !l[i].retire.Done(); n++ {
			l[i].step(m)
		}
	}
	what := fmt.Sprintf("%d levels, %v behind %v, then %v", height, script, begun, order)
	wantOne(t, what, m, cover.Entry{Node: linked(2), Birth: 1002, Retired: 1}, l[0].retire, l[1].retire)
	for level := range height {
		if l := row(m, level); l[len(l)-1] != linked(3) {
			t.Fatalf("%s: level %d has %#x", what, level, l)
		}
	}
}

func TestPutAndDeletedAtOnce(t *testing.T) { // P14.3
	for put := 0; put <= 40; put += 2 {
		for del := range 9 {
			scripts(6, 2, func(script []int) {
				bothGo(t, 3, [2]int{put, del}, script, [2]int{0, 1})
				bothGo(t, 3, [2]int{put, del}, script, [2]int{1, 0})
			})
		}
	}
}

func TestPutAndDeletedInLongMixes(t *testing.T) { // P14.3
	for seed := uint64(1); seed <= 2000; seed++ {
		roll := rolls(seed * 0x9e3779b97f4a7c15)
		script := make([]int, int(roll()%90))
		for i := range script {
			script[i] = int(roll() % 2)
		}
		last := int(roll() % 2)
		bothGo(t, 1+int(seed%6), [2]int{}, script, [2]int{1 - last, last})
	}
}

// TestAnotherFindBeside unlinks the node at once with the retire.
func TestAnotherFindBeside(t *testing.T) { // P14.3
	for begun := range 20 {
		scripts(9, 2, func(script []int) {
			m := lastOf(t, worldOf(t, 2, node{10, 2, 0}, node{20, 2, 3}, node{30, 2, 0}), 2)
			w, f, g := watch(t, m, linked(2), 20, 0), find.New(25), guard.New(1)
			for range begun {
				f.Step(m, g)
			}
			w.step(t, m)
			for _, i := range script {
				if i == 0 {
					w.step(t, m)
				} else {
					f.Step(m, g)
				}
			}
			w.toEnd(t, m, stepsAlone)
			wantOne(t, script, m, cover.Entry{Node: linked(2), Birth: 1002, Retired: 1}, w.retire)
		})
	}
}

// TestReplacedBetweenTwoSteps has the node unlinked by another find, and another one of its key linked on all levels, ahead of each step in turn.
func TestReplacedBetweenTwoSteps(t *testing.T) { // P14.1, P14.3
	for at := range 40 {
		m := lastOf(t, worldOf(t, 2, node{10, 2, 0}, node{20, 2, 3}, node{30, 2, 0}), 2)
		w := watch(t, m, linked(2), 20, 0)
		for range at {
			w.step(t, m)
		}
		f, g := find.New(20), guard.New(1)
		for range stepsAlone {
			f.Step(m, g)
		}
		m.Store(spare(3), keyField, 20)
		for level := range 2 {
			m.Store(spare(3), nextField+level, linked(3))
			m.Store(linked(1), nextField+level, spare(3))
		}
		w.toEnd(t, m, stepsAlone)
		w.wantTrace(t, leave, toFind, birth, now)
		for level := range 2 {
			wantRow(t, w, m, level, linked(1), spare(3), linked(3))
		}
	}
}

func TestGuardOfAThreadThatThereIsNot(t *testing.T) { // P14.1, R1
	for _, thread := range []int{math.MinInt, -1, 2, 8, 1 << 32, math.MaxInt} {
		m := lastOf(t, worldOf(t, 3, node{10, 2, 0}, node{20, 3, 7}, node{30, 3, 0}), 2)
		words := m.Bank().Cells()
		w := watch(t, m, linked(2), 20, thread)
		w.toEnd(t, m, stepsAlone)
		words[cellOf(m.Config(), linked(2), ownersField)] = 0
		alone(m.Config(), words, 2, 20)
		if !slices.Equal(m.Bank().Cells(), words) {
			t.Errorf("thread %d: leaves %v; want %v", thread, m.Bank().Cells(), words)
		}
	}
}

// TestSlotsThatThereAreNot have no owners: nobody was the last one.
func TestSlotsThatThereAreNot(t *testing.T) { // P14.1, P14.2, R1, R8
	for _, index := range []int{4, 64, 65, 1 << 31, 1<<32 - 1} {
		for _, h := range []uint64{named(index, 5), named(index, 5) | mark, uint64(index)} {
			m := worldOf(t, 2, node{10, 1, 0}, node{20, 2, 3})
			words := m.Bank().Cells()
			w := watch(t, m, h, 20, 0)
			w.toEnd(t, m, stepsAlone)
			w.wantTrace(t, leave)
			if m.Bank().Count() != 1 || !slices.Equal(m.Bank().Cells(), words) {
				t.Errorf("%s: %d accesses, leaves %v", w, m.Bank().Count(), m.Bank().Cells())
			}
		}
	}
}

// TestTheHeadAndNone speak of the head's fields.
func TestTheHeadAndNone(t *testing.T) { // P14.1, P14.2, R1, R8
	for _, h := range []uint64{0, head, mark, head | mark, 1 << 32, named(0, 7)} {
		for _, owners := range []uint64{0, 1, 2} {
			for _, k := range []uint64{0, 20, 99} {
				m := with(t, worldOf(t, 2, node{10, 1, 0}, node{20, 2, 3}), head, ownersField, owners)
				w := watch(t, m, h, k, 0)
				w.toEnd(t, m, stepsAlone)
				var want cover.Entry
				if owners == 1 {
					want = cover.Entry{Node: h &^ mark, Birth: 0, Retired: 1}
				}
				if e, is := w.retire.Entry(); e != want || is != (owners == 1) {
					t.Errorf("%s: the entry %+v, %v; want %+v", w, e, is, want)
				}
				if has(m, head, ownersField) != owners-1 {
					t.Errorf("%s: the head has %d owners", w, has(m, head, ownersField))
				}
			}
		}
	}
}

func TestRetiresKeepApart(t *testing.T) { // R6
	m := lastOf(t, worldOf(t, 2, node{10, 2, 3}, node{20, 2, 0}), 1)
	other := worldOf(t, 4, node{10, 2, 0}, node{20, 2, 0}, node{30, 4, everywhere})
	other = lastOf(t, lastOf(t, other, 2), 3)
	l := []*watched{watch(t, m, linked(1), 10, 0), watch(t, other, linked(3), 30, 0), watch(t, other, linked(2), 20, 1), watch(t, other, linked(1), 10, 0)}
	for range 60 {
		for i, w := range l {
			if i == 0 {
				w.step(t, m)
			} else {
				w.step(t, other)
			}
		}
	}
	for i, want := range []cover.Entry{{Node: linked(1), Birth: 1001, Retired: 1}, {Node: linked(3), Birth: 1003, Retired: 1}, {Node: linked(2), Birth: 1002, Retired: 1}, {}} {
		if e, is := l[i].retire.Entry(); e != want || is != (i < 3) {
			t.Errorf("%s: the entry %+v, %v; want %+v", l[i], e, is, want)
		}
	}
}

// rolls tells words that hang on nothing but those ahead of them.
func rolls(seed uint64) func() uint64 {
	return func() uint64 {
		seed ^= seed << 13
		seed ^= seed >> 7
		seed ^= seed << 17
		return seed
	}
}

// anyWords has words of all kinds: handles with and without the mark, small numbers, and any.
func anyWords(t *testing.T, roll func() uint64) *mem.Mem {
	t.Helper()
	c := api.Config{Threads: 1 + int(roll()%2), Slots: 1 + int(roll()%3), Cap: 1 + int(roll()%4), Height: 1 + int(roll()%6), Keep: 1, Every: 1, Last: 9}
	words := make([]uint64, 1+c.Threads*c.Slots+(c.Cap+1)*(6+c.Height))
	for i := range words {
		words[i] = anyWord(roll, c.Cap)
	}
	return worldWith(t, c, words)
}

func anyWord(roll func() uint64, most int) uint64 {
	switch roll() % 5 {
	case 0:
		return roll()
	case 1:
		return roll() % 8
	case 2:
		return named(int(roll()%uint64(most+2)), 1) | roll()&mark
	}
	return named(int(roll()%uint64(most+2)), 0)
}

func TestAnyWords(t *testing.T) { // P14.1, P14.2, R1, R8
	ends, lasts := 0, 0
	for seed := uint64(1); seed <= 1500; seed++ {
		roll := rolls(seed * 0x9e3779b97f4a7c15)
		m := anyWords(t, roll)
		c := m.Config()
		h := anyWord(roll, c.Cap)
		if roll()%4 != 0 && cellOf(c, h, ownersField) >= 0 {
			m = with(t, m, h, ownersField, 1)
		}
		w := watch(t, m, h, roll()>>(roll()%64), int(roll()%3))
		for i := 0; i < 150 && w.next != over; i++ {
			switch roll() % 16 {
			case 0:
				m.Tick()
			case 1:
				m.Store(named(int(roll()%uint64(c.Cap+1)), 0), int(roll()%uint64(6+c.Height)), anyWord(roll, c.Cap))
			}
			w.step(t, m)
		}
		if w.next == over {
			ends++
			if w.last {
				lasts++
			}
		}
	}
	if lasts == 0 || ends == lasts {
		t.Errorf("%d ends, %d of these of last ones", ends, lasts)
	}
}

func TestStepsOverWorldsThatChange(t *testing.T) { // R1, R8
	for _, h := range []uint64{linked(1), linked(2), named(9, 0), 0} {
		small, great := worldOf(t, 1, node{10, 1, 1}), worldOf(t, 6, node{10, 6, 0}, node{20, 1, 1}, node{30, 4, 0})
		for _, l := range [][]*mem.Mem{{small, great}, {great, small}, {great, great, great, small}} {
			for range 3 {
				r, g := retire.New(h, 20), guard.New(0)
				for i := range 200 {
					m := l[i%len(l)]
					done, count := r.Done(), m.Bank().Count()
					r.Step(m, g)
					if n := m.Bank().Count() - count; n > 1 || n == 0 != done {
						t.Fatalf("retire of %#x: %d accesses, Done %v", h, n, done)
					}
					if _, is := r.Entry(); is && !r.Done() {
						t.Fatalf("retire of %#x: an entry ahead of the end", h)
					}
				}
			}
		}
	}
}
