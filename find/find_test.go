package find_test

import (
	"fmt"
	"math"
	"slices"
	"testing"

	"stepstone/api"
	"stepstone/bank"
	"stepstone/find"
	"stepstone/guard"
	"stepstone/mem"
)

const (
	greatestWord = uint64(math.MaxUint64)
	mark         = uint64(1) << 62
	head         = uint64(1) << 63 // index 0, generation 0
)

// The fields, as chapter 4 counts them; next is that of level 0.
const (
	keyField  = 1
	nextField = 6
)

// Handles and cells are worked out by the words of chapters 1 and 4, so that they don't err along with the packages.

func named(index, gen int) uint64 { return 1<<63 | uint64(gen)<<32 | uint64(index) }

func valid(w uint64) bool { return w>>63 == 1 }

func marked(w uint64) bool { return w>>62&1 == 1 }

const clockCell = 0

// cellOf tells the cell of a field of the slot of h's index, -1 if there is none.
func cellOf(c api.Config, h uint64, field int) int {
	index := int(uint32(h))
	if index > c.Cap || field >= 6+c.Height {
		return -1
	}
	return 1 + c.Threads*c.Slots + index*(6+c.Height) + field
}

func reservation(c api.Config, thread, slot int) int {
	if thread < 0 || thread >= c.Threads || slot < 0 || slot >= c.Slots {
		return -1
	}
	return 1 + thread*c.Slots + slot
}

// node is linked on the levels from 0 to tall - 1; the bits of deleted say on which it is deleted, from level 0 on.
type node struct {
	key     uint64
	tall    int
	deleted int
}

func (n node) deletedOn(level int) bool { return n.deleted>>level&1 == 1 }

func config(height, most int) api.Config {
	return api.Config{Threads: 2, Slots: 2, Cap: most, Height: height, Keep: 1, Every: 1, Last: 9}
}

// genOf lets the nodes be of several generations.
func genOf(index int) int { return index % 3 }

// linked tells the handle of the node at that place of the list, from 1 on, as worldOf has them.
func linked(place int) uint64 { return named(place, genOf(place)) }

// worldOf has these nodes in the slots from 1 on, linked in their order on each level, and one slot more.
func worldOf(t *testing.T, height int, nodes ...node) *mem.Mem {
	t.Helper()
	c := config(height, len(nodes)+1)
	m, e := mem.New(c)
	if e != api.OK {
		t.Fatalf("New(%+v): error %d", c, e)
	}
	cells := m.Bank().Cells()
	for i, n := range nodes {
		cells[cellOf(c, linked(i+1), 0)] = uint64(genOf(i+1))<<2 | 1
		cells[cellOf(c, linked(i+1), keyField)] = n.key
		cells[cellOf(c, linked(i+1), 4)] = uint64(n.tall)
	}
	for level := range height {
		last := cellOf(c, head, nextField+level)
		for i, n := range nodes {
			if n.tall <= level {
				continue
			}
			cells[last] |= linked(i + 1)
			last = cellOf(c, linked(i+1), nextField+level)
			if n.deletedOn(level) {
				cells[last] = mark
			}
		}
	}
	return worldWith(t, c, cells)
}

func worldWith(t *testing.T, c api.Config, cells []uint64) *mem.Mem {
	t.Helper()
	m, e := mem.Of(c, cells)
	if e != api.OK {
		t.Fatalf("Of(%+v): error %d", c, e)
	}
	return m
}

// has tells what a field has without an access.
func has(m *mem.Mem, h uint64, field int) uint64 {
	cell := cellOf(m.Config(), h, field)
	if cell < 0 {
		return 0
	}
	return m.Bank().Cells()[cell]
}

func loading(m *mem.Mem, h uint64, field int) bank.Access {
	w := has(m, h, field)
	cell := cellOf(m.Config(), h, field)
	return bank.Access{Kind: bank.Loads, Cell: cell, Via: h &^ mark, Old: w, New: w, Done: cell >= 0}
}

func swapping(m *mem.Mem, h uint64, field int, old, v uint64) bank.Access {
	a := loading(m, h, field)
	a.Kind, a.Done = bank.Swaps, a.Cell >= 0 && a.Old == old
	if a.Done {
		a.New = v
	}
	return a
}

func loadingClock(m *mem.Mem) bank.Access {
	era := m.Bank().Cells()[clockCell]
	return bank.Access{Kind: bank.Loads, Cell: clockCell, Old: era, New: era, Done: true}
}

func storing(m *mem.Mem, thread, slot int, era uint64) bank.Access {
	a := bank.Access{Kind: bank.Stores, Cell: reservation(m.Config(), thread, slot)}
	if a.Cell >= 0 {
		a.Old, a.New, a.Done = m.Bank().Cells()[a.Cell], era, true
	}
	return a
}

// wantAccess does something that is to be just that one access of the world.
func wantAccess(t *testing.T, what any, m *mem.Mem, want bank.Access, do func()) {
	t.Helper()
	had, count := m.Bank().Cells(), m.Bank().Count()
	do()
	if n := m.Bank().Count() - count; n != 1 {
		t.Fatalf("%v: %d accesses; want 1", what, n)
	}
	if a := m.Bank().Last(); a != want {
		t.Fatalf("%v: the access %+v; want %+v", what, a, want)
	}
	if want.Cell >= 0 {
		had[want.Cell] = want.New
	}
	if cells := m.Bank().Cells(); !slices.Equal(cells, had) {
		t.Fatalf("%v: cells %v; want %v", what, cells, had)
	}
}

// What comes next, by the words of the chapter.
const (
	read    = "read"
	check   = "check"
	publish = "publish"
	peek    = "peek"
	unlink  = "unlink"
	key     = "key"
	over    = "over"
)

type ended struct{ pred, succ, key uint64 }

// watched is a find with its guard, and what both should do and know by the words of chapters 10 and 11.
type watched struct {
	find         *find.Find
	guard        *guard.Guard
	k            uint64
	next         string
	level        int
	pred, x, s   uint64
	era          uint64
	ends         [api.MaxHeight]ended
	at           int
	thread, used int
	latest       uint64
	anews        int // how often it began anew
	trace        []string
}

func watch(t *testing.T, m *mem.Mem, k uint64, thread int) *watched {
	t.Helper()
	w := &watched{find: find.New(k), guard: guard.New(thread), k: k, thread: thread}
	w.anew(m)
	w.anews = 0
	w.wantTold(t, m)
	return w
}

func (w *watched) anew(m *mem.Mem) {
	w.next, w.level, w.pred = read, m.Config().Height-1, head
	w.anews++
}

func (w *watched) end(e ended) {
	w.ends[w.level] = e
	w.next = read
	if w.level == 0 {
		w.next = over
	}
	w.level--
}

func (w *watched) String() string {
	return fmt.Sprintf("find of %d, %s of level %d, pred %#x, x %#x, behind %v", w.k, w.next, w.level, w.pred, w.x, w.trace)
}

// wants tells the access that the next Step is to be.
func (w *watched) wants(m *mem.Mem) bank.Access {
	switch w.next {
	case read:
		return loading(m, w.pred, nextField+w.level)
	case check:
		return loadingClock(m)
	case publish:
		if w.used < m.Config().Slots {
			return storing(m, w.thread, w.used, w.era)
		}
		return storing(m, w.thread, 0, w.era)
	case peek:
		return loading(m, w.x, nextField+w.level)
	case unlink:
		return swapping(m, w.pred, nextField+w.level, w.x, w.s&^mark)
	}
	return loading(m, w.x, keyField)
}

// goesOn takes down what came of the access.
func (w *watched) goesOn(m *mem.Mem, a bank.Access) {
	w.trace = append(w.trace, w.next)
	switch w.next {
	case read:
		if w.level == 0 {
			w.at = m.Bank().Count()
		}
		switch {
		case marked(a.Old):
			w.anew(m)
		case !valid(a.Old):
			w.end(ended{pred: w.pred})
		default:
			w.x, w.next = a.Old, check
		}
	case check:
		w.era, w.next = a.Old, publish
		if a.Old == w.latest {
			w.next = peek
		}
	case publish:
		w.published(m)
	case peek:
		w.s, w.next = a.Old, key
		if marked(a.Old) {
			w.next = unlink
		}
	case unlink:
		w.next = read
		if !a.Done {
			w.anew(m)
		}
	case key:
		if a.Old >= w.k {
			w.end(ended{w.pred, w.x, a.Old})
			return
		}
		w.pred, w.next = w.x, read
	}
}

func (w *watched) published(m *mem.Mem) {
	w.latest = w.era
	if w.used < m.Config().Slots {
		w.used, w.next = w.used+1, read
		return
	}
	w.used = 1
	w.anew(m)
}

func (w *watched) step(t *testing.T, m *mem.Mem) {
	t.Helper()
	if w.next == over {
		w.wantIdle(t, m)
		return
	}
	a := w.wants(m)
	wantAccess(t, w, m, a, func() { w.find.Step(m, w.guard) })
	w.goesOn(m, a)
	w.wantTold(t, m)
}

// wantTold holds all that the find tells against what it should, and that telling is no access.
func (w *watched) wantTold(t *testing.T, m *mem.Mem) {
	t.Helper()
	count := m.Bank().Count()
	if done := w.next == over; w.find.Done() != done {
		t.Fatalf("%s: Done %v", w, w.find.Done())
	}
	if w.find.At() != w.at {
		t.Fatalf("%s: At %d; want %d", w, w.find.At(), w.at)
	}
	for _, level := range []int{math.MinInt, -6, -1, 0, 1, 2, 3, 4, 5, 6, 7, 64, 1 << 32, math.MaxInt} {
		var want ended
		if w.next == over && level >= 0 && level < m.Config().Height {
			want = w.ends[level]
		}
		if e := (ended{w.find.Pred(level), w.find.Succ(level), w.find.Key(level)}); e != want {
			t.Fatalf("%s: level %d: Pred, Succ, Key %#x; want %#x", w, level, e, want)
		}
	}
	if w.guard.Latest() != w.latest {
		t.Fatalf("%s: the latest is %d; want %d", w, w.guard.Latest(), w.latest)
	}
	if m.Bank().Count() != count {
		t.Fatalf("%s: what is told was an access", w)
	}
}

func (w *watched) wantIdle(t *testing.T, m *mem.Mem) {
	t.Helper()
	had, count := m.Bank().Cells(), m.Bank().Count()
	for range 3 {
		w.find.Step(m, w.guard)
	}
	if m.Bank().Count() != count || !slices.Equal(m.Bank().Cells(), had) {
		t.Fatalf("%s: a Step behind the end did something", w)
	}
	w.wantTold(t, m)
}

// toEnd steps to the end, which is to come within that many steps, and tells how many they were.
func (w *watched) toEnd(t *testing.T, m *mem.Mem, most int) int {
	t.Helper()
	steps := 0
	for w.next != over {
		if steps == most {
			t.Fatalf("%s: no end in %d steps", w, most)
		}
		w.step(t, m)
		steps++
	}
	w.wantIdle(t, m)
	return steps
}

func (w *watched) wantTrace(t *testing.T, what string, want ...string) {
	t.Helper()
	if !slices.Equal(w.trace, want) {
		t.Fatalf("%s: the steps %v; want %v", what, w.trace, want)
	}
}

func (w *watched) wantEnd(t *testing.T, what string, level int, want ended) {
	t.Helper()
	if e := (ended{w.find.Pred(level), w.find.Succ(level), w.find.Key(level)}); e != want {
		t.Errorf("%s, level %d: Pred, Succ, Key %#x; want %#x", what, level, e, want)
	}
}

// stepsAlone is more than a find alone takes in any of these worlds.
const stepsAlone = 500

func TestExamples(t *testing.T) { // P11.1, P11.2
	m := worldOf(t, 1, node{key: 3, tall: 1}, node{key: 5, tall: 1})
	w := watch(t, m, 4, 0)
	w.toEnd(t, m, stepsAlone)
	w.wantEnd(t, "head, 3, 5", 0, ended{linked(1), linked(2), 5})
	m = worldOf(t, 1, node{key: 3, tall: 1, deleted: 1}, node{key: 5, tall: 1})
	w = watch(t, m, 3, 0)
	w.toEnd(t, m, stepsAlone)
	w.wantEnd(t, "head, 3 (deleted), 5", 0, ended{head, linked(2), 5})
	if has(m, head, nextField) != linked(2) || has(m, linked(1), nextField) != linked(2)|mark {
		t.Errorf("the head names %#x, the deleted node %#x", has(m, head, nextField), has(m, linked(1), nextField))
	}
}

// TestEachStep writes each access of a find down, by no model.
func TestEachStep(t *testing.T) { // P11.1, P11.2
	m := worldOf(t, 2, node{2, 1, 0}, node{4, 2, 0}, node{6, 1, 1}, node{8, 2, 0})
	a, b, c, d := linked(1), linked(2), linked(3), linked(4)
	f, g := find.New(7), guard.New(1)
	now := loadingClock(m)
	for i, want := range []bank.Access{
		loading(m, head, nextField+1),
		now,
		storing(m, 1, 0, 1),
		loading(m, head, nextField+1),
		now,
		loading(m, b, nextField+1),
		loading(m, b, keyField),
		loading(m, b, nextField+1),
		now,
		loading(m, d, nextField+1),
		loading(m, d, keyField),
		loading(m, b, nextField),
		now,
		loading(m, c, nextField),
		swapping(m, b, nextField, c, d),
		{Kind: bank.Loads, Cell: cellOf(m.Config(), b, nextField), Via: b, Old: d, New: d, Done: true},
		now,
		loading(m, d, nextField),
		loading(m, d, keyField),
	} {
		if f.Done() || f.Pred(0) != 0 || f.Succ(0) != 0 || f.Key(0) != 0 || f.Pred(1) != 0 || f.Succ(1) != 0 || f.Key(1) != 0 {
			t.Fatalf("step %d: tells something ahead of the end", i)
		}
		wantAccess(t, fmt.Sprintf("step %d", i), m, want, func() { f.Step(m, g) })
	}
	if !f.Done() || f.Pred(1) != b || f.Succ(1) != d || f.Key(1) != 8 || f.Pred(0) != b || f.Succ(0) != d || f.Key(0) != 8 {
		t.Errorf("Done %v, level 1: %#x %#x %d, level 0: %#x %#x %d", f.Done(), f.Pred(1), f.Succ(1), f.Key(1), f.Pred(0), f.Succ(0), f.Key(0))
	}
	if f.At() != 16 {
		t.Errorf("At %d; want 16, the second read of level 0 from the node of 4", f.At())
	}
	if has(m, a, nextField) != b {
		t.Errorf("the node of 2 names %#x", has(m, a, nextField))
	}
}

func TestNoNode(t *testing.T) { // P11.1, P11.2
	for height := 1; height <= 6; height++ {
		for _, k := range []uint64{0, 1, greatestWord} {
			m := worldOf(t, height)
			w := watch(t, m, k, 0)
			if steps := w.toEnd(t, m, stepsAlone); steps != height {
				t.Fatalf("Height %d: %d steps", height, steps)
			}
			for level := range height {
				w.wantEnd(t, "no node", level, ended{pred: head})
			}
			if w.find.At() != height {
				t.Errorf("Height %d: At %d", height, w.find.At())
			}
		}
	}
}

func TestKeysAtTheEnds(t *testing.T) { // P11.1, P11.2
	for height := 1; height <= 6; height++ {
		m := worldOf(t, height, node{0, height, 0}, node{1, 1, 0}, node{greatestWord - 1, 1, 0}, node{greatestWord, height, 0})
		for _, x := range []struct {
			k         uint64
			low, high ended
		}{
			{0, ended{head, linked(1), 0}, ended{head, linked(1), 0}},
			{1, ended{linked(1), linked(2), 1}, ended{linked(1), linked(4), greatestWord}},
			{2, ended{linked(2), linked(3), greatestWord - 1}, ended{linked(1), linked(4), greatestWord}},
			{1 << 63, ended{linked(2), linked(3), greatestWord - 1}, ended{linked(1), linked(4), greatestWord}},
			{greatestWord, ended{linked(3), linked(4), greatestWord}, ended{linked(1), linked(4), greatestWord}},
		} {
			w := watch(t, m, x.k, 1)
			w.toEnd(t, m, stepsAlone)
			w.wantEnd(t, fmt.Sprintf("find of %d", x.k), 0, x.low)
			for level := 1; level < height; level++ {
				w.wantEnd(t, fmt.Sprintf("find of %d", x.k), level, x.high)
			}
		}
	}
}

func TestKeyAboveAllNodes(t *testing.T) { // P11.1, P11.2
	m := worldOf(t, 3, node{5, 1, 0}, node{7, 2, 0}, node{9, 1, 0})
	w := watch(t, m, 10, 0)
	w.toEnd(t, m, stepsAlone)
	w.wantEnd(t, "above all", 0, ended{pred: linked(3)})
	w.wantEnd(t, "above all", 1, ended{pred: linked(2)})
	w.wantEnd(t, "above all", 2, ended{pred: head})
}

// aloneEnds works out by the words themselves where the levels end, and lets words be as they are behind the find.
func aloneEnds(c api.Config, words []uint64, k uint64) []ended {
	ends := make([]ended, c.Height)
	pred := head
	for level := c.Height - 1; level >= 0; level-- {
		for {
			from := cellOf(c, pred, nextField+level)
			x := words[from]
			if !valid(x) {
				ends[level] = ended{pred: pred}
				break
			}
			if behind := words[cellOf(c, x, nextField+level)]; marked(behind) {
				words[from] = behind &^ mark
				continue
			}
			if k <= words[cellOf(c, x, keyField)] {
				ends[level] = ended{pred, x, words[cellOf(c, x, keyField)]}
				break
			}
			pred = x
		}
	}
	return ends
}

// wantAlone lets a find go alone, and holds what it tells and what it leaves against the words.
func wantAlone(t *testing.T, m *mem.Mem, k uint64) *watched {
	t.Helper()
	words := m.Bank().Cells()
	ends := aloneEnds(m.Config(), words, k)
	w := watch(t, m, k, 1)
	before := m.Bank().Count()
	steps := w.toEnd(t, m, stepsAlone)
	if w.anews != 0 || m.Bank().Count() != before+steps {
		t.Fatalf("%s: %d times anew, %d accesses in %d steps", w, w.anews, m.Bank().Count()-before, steps)
	}
	for level, e := range ends {
		w.wantEnd(t, w.String(), level, e)
	}
	if first := reservation(m.Config(), 1, 0); w.used > 0 {
		words[first] = words[clockCell]
	}
	if cells := m.Bank().Cells(); !slices.Equal(cells, words) {
		t.Fatalf("%s: leaves %v; want %v", w, cells, words)
	}
	return w
}

// nodeLists calls with each list of nodes of the keys 10, 20 .., of each number of levels, deleted on each of these, where the deletions come from above.
func nodeLists(count, height int, call func(nodes []node)) {
	var kinds []node
	for tall := 1; tall <= height; tall++ {
		for from := 0; from <= tall; from++ {
			kinds = append(kinds, node{tall: tall, deleted: 1<<tall - 1<<from})
		}
	}
	nodes := make([]node, count)
	var fill func(i int)
	fill = func(i int) {
		if i == count {
			call(nodes)
			return
		}
		for _, n := range kinds {
			n.key = uint64(10 * (i + 1))
			nodes[i] = n
			fill(i + 1)
		}
	}
	fill(0)
}

func TestAloneOverAllSmallWorlds(t *testing.T) { // P11.1, P11.2, P11.3
	for _, x := range []struct{ count, height int }{{1, 1}, {3, 1}, {4, 1}, {2, 2}, {3, 2}, {2, 3}, {1, 6}} {
		nodeLists(x.count, x.height, func(nodes []node) {
			for k := uint64(5); k <= uint64(10*x.count+5); k += 5 {
				wantAlone(t, worldOf(t, x.height, nodes...), k)
			}
		})
	}
}

func TestLevelsOnWhichANodeIsDeleted(t *testing.T) { // P11.1, P11.3
	for deleted := range 1 << 3 {
		for _, k := range []uint64{11, 19, 20} {
			m := worldOf(t, 3, node{10, 3, 0}, node{20, 3, deleted}, node{30, 3, 0})
			w := wantAlone(t, m, k)
			for level := range 3 {
				want := ended{linked(1), linked(2), 20}
				if deleted>>level&1 == 1 {
					want = ended{linked(1), linked(3), 30}
				}
				w.wantEnd(t, fmt.Sprintf("deleted %b, find of %d", deleted, k), level, want)
				if has(m, linked(1), nextField+level) != want.succ {
					t.Errorf("deleted %b, find of %d: 10 names %#x on level %d", deleted, k, has(m, linked(1), nextField+level), level)
				}
			}
		}
	}
}

// TestPassedAboveWhereItIsDeletedBelow has words of no world for long: nodes are deleted from their highest level down.
func TestPassedAboveWhereItIsDeletedBelow(t *testing.T) { // P11.1, R1
	for _, deleted := range []int{1, 2, 3, 5} {
		m := worldOf(t, 3, node{10, 3, 0}, node{20, 3, deleted}, node{30, 3, 0})
		w := watch(t, m, 25, 0)
		for range 200 {
			w.step(t, m)
		}
		if w.next == over || w.anews < 5 {
			t.Fatalf("deleted %b: %d times anew, Done %v", deleted, w.anews, w.find.Done())
		}
		for level := range 3 {
			m.Store(linked(2), nextField+level, linked(3)|mark)
		}
		w.toEnd(t, m, stepsAlone)
		for level := range 3 {
			w.wantEnd(t, "deleted on all levels", level, ended{linked(1), linked(3), 30})
		}
	}
}

func TestSeveralDeletedInARow(t *testing.T) { // P11.1, P11.3
	for count := 1; count <= 12; count++ {
		nodes := []node{{1, 2, 0}}
		for i := range count {
			nodes = append(nodes, node{uint64(i + 2), 2, 3})
		}
		nodes = append(nodes, node{99, 2, 0})
		for _, k := range []uint64{2, uint64(count + 1), 98} {
			m := worldOf(t, 2, nodes...)
			w := wantAlone(t, m, k)
			want := ended{linked(1), linked(count + 2), 99}
			for level := range 2 {
				w.wantEnd(t, "several deleted", level, want)
				if has(m, linked(1), nextField+level) != want.succ {
					t.Errorf("%d deleted, level %d: 1 names %#x", count, level, has(m, linked(1), nextField+level))
				}
			}
		}
	}
}

func TestDeletedAtTheEndOfALevel(t *testing.T) { // P11.1, P11.3
	m := worldOf(t, 1, node{1, 1, 0}, node{2, 1, 1}, node{3, 1, 1})
	w := wantAlone(t, m, 3)
	w.wantEnd(t, "the last ones are deleted", 0, ended{pred: linked(1)})
	if has(m, linked(1), nextField) != 0 || has(m, linked(3), nextField) != mark {
		t.Errorf("1 names %#x, 3 %#x", has(m, linked(1), nextField), has(m, linked(3), nextField))
	}
}

func TestAllNodesAreDeleted(t *testing.T) { // P11.1, P11.3
	m := worldOf(t, 2, node{1, 2, 3}, node{2, 1, 1}, node{3, 2, 3})
	w := wantAlone(t, m, 9)
	for level := range 2 {
		w.wantEnd(t, "all are deleted", level, ended{pred: head})
		if has(m, head, nextField+level) != 0 {
			t.Errorf("the head names %#x on level %d", has(m, head, nextField+level), level)
		}
	}
}

func TestAFullWorld(t *testing.T) { // P11.3
	var nodes []node
	for i := range 63 {
		nodes = append(nodes, node{uint64(3*i + 3), 1 + i%6, (i / 7 % 2) * (1<<(1+i%6) - 1)})
	}
	for k := uint64(0); k < 200; k += 7 {
		wantAlone(t, worldOf(t, 6, nodes...), k)
	}
}

func TestFindsOneBehindTheOther(t *testing.T) { // P11.1, P11.3
	m := worldOf(t, 2, node{10, 1, 1}, node{20, 2, 0}, node{30, 2, 3}, node{40, 1, 0})
	g := guard.New(0)
	for i, k := range []uint64{45, 10, 30, 40, 45} {
		f, before := find.New(k), m.Bank().Count()
		words := m.Bank().Cells()
		ends := aloneEnds(m.Config(), words, k)
		for !f.Done() && m.Bank().Count() < before+stepsAlone {
			f.Step(m, g)
		}
		for level, e := range ends {
			if f.Pred(level) != e.pred || f.Succ(level) != e.succ || f.Key(level) != e.key {
				t.Errorf("find %d of %d: level %d: %#x %#x %d; want %#x", i, k, level, f.Pred(level), f.Succ(level), f.Key(level), e)
			}
		}
		if i > 0 && m.Bank().Cells()[reservation(m.Config(), 0, 1)] != 0 {
			t.Errorf("find %d: a guard that has the era publishes it again", i)
		}
	}
}

func TestReadOfAMarkedWord(t *testing.T) { // P11.1
	// 20 is passed on both levels; then its word of level 0 gets the mark, ahead of the read of it.
	m := worldOf(t, 2, node{20, 2, 0}, node{30, 1, 0})
	w := watch(t, m, 25, 0)
	for w.next != read || w.level != 0 {
		w.step(t, m)
	}
	if w.pred != linked(1) {
		t.Fatalf("pred is %#x on level 0", w.pred)
	}
	m.Store(linked(1), nextField, linked(2)|mark)
	m.Store(linked(1), nextField+1, mark)
	w.step(t, m)
	if w.anews != 1 || w.find.At() != m.Bank().Count() {
		t.Fatalf("%s: %d times anew, At %d", w, w.anews, w.find.At())
	}
	at := w.find.At()
	wantAccess(t, "anew", m, loading(m, head, nextField+1), func() { w.find.Step(m, w.guard) })
	if w.find.At() != at {
		t.Errorf("At %d behind anew; want %d", w.find.At(), at)
	}
	for !w.find.Done() {
		w.find.Step(m, w.guard)
	}
	w.wantEnd(t, "anew", 0, ended{head, linked(2), 30})
	w.wantEnd(t, "anew", 1, ended{pred: head})
}

func TestMarkedWordsThatNameNoNode(t *testing.T) { // P11.1
	for _, word := range []uint64{mark, mark | 5, mark | 1<<40, greatestWord &^ (1 << 63)} {
		m := worldOf(t, 2, node{20, 2, 0})
		m.Store(head, nextField, word)
		w := watch(t, m, 10, 0)
		for range 40 {
			w.step(t, m)
		}
		if w.next == over || w.anews < 3 {
			t.Errorf("the head's word %#x: %d times anew, Done %v", word, w.anews, w.find.Done())
		}
		m.Store(head, nextField, linked(1))
		w.toEnd(t, m, stepsAlone)
		w.wantEnd(t, "the mark is gone", 0, ended{head, linked(1), 20})
	}
}

func TestWordsThatNameNoNode(t *testing.T) { // P11.1, P11.2
	for _, word := range []uint64{0, 1, 5, 1<<32 | 1, 1<<62 - 1} {
		m := worldOf(t, 2, node{20, 2, 0}, node{30, 2, 0})
		m.Store(linked(1), nextField, word)
		w := watch(t, m, 25, 0)
		w.toEnd(t, m, stepsAlone)
		w.wantEnd(t, fmt.Sprintf("the word %#x", word), 0, ended{pred: linked(1)})
		w.wantEnd(t, fmt.Sprintf("the word %#x", word), 1, ended{linked(1), linked(2), 30})
	}
}

func TestPublishThatTellsFalse(t *testing.T) { // P11.1
	// Two reservations: the third era of a find begins anew.
	m := worldOf(t, 2, node{10, 2, 0}, node{20, 1, 0}, node{30, 1, 0})
	w := watch(t, m, 40, 0)
	for range 2 {
		for w.next != publish {
			w.step(t, m)
		}
		w.step(t, m)
		if w.next != read || w.anews != 0 {
			t.Fatalf("%s: %d times anew", w, w.anews)
		}
		pred, level := w.pred, w.level
		wantAccess(t, "behind a publish", m, loading(m, pred, nextField+level), func() { w.find.Step(m, w.guard) })
		w.goesOn(m, m.Bank().Last())
		for w.next != read {
			w.step(t, m)
		}
		m.Tick()
	}
	for w.next != publish {
		w.step(t, m)
	}
	if w.pred == head {
		t.Fatalf("%s: pred is the head", w)
	}
	w.step(t, m)
	if w.anews != 1 {
		t.Fatalf("%s: %d times anew; want 1", w, w.anews)
	}
	wantAccess(t, "anew", m, loading(m, head, nextField+1), func() { w.find.Step(m, w.guard) })
	w.goesOn(m, m.Bank().Last())
	w.toEnd(t, m, stepsAlone)
	w.wantEnd(t, "three eras", 0, ended{pred: linked(3)})
}

func TestClockGoesOnAheadOfEachStep(t *testing.T) { // P11.1
	nodes := []node{{10, 2, 0}, {20, 1, 1}, {30, 2, 0}}
	for first := range 24 {
		for ticks := 1; ticks <= 3; ticks++ {
			for every := 1; every <= 4; every++ {
				m := worldOf(t, 2, nodes...)
				w := watch(t, m, 25, 1)
				for i := 0; w.next != over && i < stepsAlone; i++ {
					if i >= first && (i-first)%every == 0 && i-first < every*ticks {
						m.Tick()
					}
					w.step(t, m)
				}
				w.toEnd(t, m, 1)
				w.wantEnd(t, "the clock went on", 0, ended{linked(1), linked(3), 30})
				w.wantEnd(t, "the clock went on", 1, ended{linked(1), linked(3), 30})
				if w.find.At() == 0 || has(m, linked(1), nextField) != linked(3) {
					t.Fatalf("%s: At %d, 10 names %#x", w, w.find.At(), has(m, linked(1), nextField))
				}
			}
		}
	}
}

func TestClockThatNeverStands(t *testing.T) { // P11.1, R1
	m := worldOf(t, 1, node{10, 1, 0})
	w := watch(t, m, 5, 0)
	for range 300 {
		m.Tick()
		w.step(t, m)
	}
	if w.next == over {
		t.Errorf("%s: looked at a node in an era that was not published", w)
	}
	w.toEnd(t, m, 9)
}

func TestGuardThatHasTheEra(t *testing.T) { // P11.1
	m := worldOf(t, 1, node{10, 1, 0})
	w := watch(t, m, 5, 0)
	w.guard.Publish(m, 1)
	w.used, w.latest = 1, 1
	w.toEnd(t, m, 9)
	w.wantTrace(t, "the era is published", read, check, peek, key)
}

func TestClockThatGoesRound(t *testing.T) { // P11.1, R4
	cells := worldOf(t, 1, node{10, 1, 0}).Bank().Cells()
	cells[clockCell] = greatestWord
	m := worldWith(t, config(1, 2), cells)
	w := watch(t, m, 11, 0)
	for w.next != key {
		w.step(t, m)
	}
	m.Tick()
	m.Store(linked(1), nextField, named(2, 0))
	w.toEnd(t, m, stepsAlone)
	w.wantEnd(t, "the era 0", 0, ended{pred: named(2, 0)})
	w.wantTrace(t, "the era 0", read, check, publish, read, check, peek, key, read, check, publish, read, check, peek, key, read)
}

func TestTraces(t *testing.T) { // P11.1
	for _, x := range []struct {
		what  string
		nodes []node
		k     uint64
		want  []string
	}{
		{"no node", nil, 5, []string{read}},
		{"below all", []node{{10, 1, 0}}, 5, []string{read, check, publish, read, check, peek, key}},
		{"just there", []node{{10, 1, 0}}, 10, []string{read, check, publish, read, check, peek, key}},
		{"above all", []node{{10, 1, 0}}, 11, []string{read, check, publish, read, check, peek, key, read}},
		{"between", []node{{10, 1, 0}, {20, 1, 0}}, 15, []string{read, check, publish, read, check, peek, key, read, check, peek, key}},
		{"deleted", []node{{10, 1, 1}}, 10, []string{read, check, publish, read, check, peek, unlink, read}},
		{"deleted, and one behind", []node{{10, 1, 1}, {20, 1, 0}}, 15, []string{read, check, publish, read, check, peek, unlink, read, check, peek, key}},
	} {
		m := worldOf(t, 1, x.nodes...)
		w := watch(t, m, x.k, 0)
		w.toEnd(t, m, stepsAlone)
		w.wantTrace(t, x.what, x.want...)
	}
}

func TestAnUnlinkThatIsLost(t *testing.T) { // P11.1
	for _, word := range []uint64{0, linked(2), linked(3), linked(1) | mark, named(1, 9), linked(1) &^ (1 << 63)} {
		m := worldOf(t, 1, node{10, 1, 1}, node{20, 1, 0})
		w := watch(t, m, 15, 0)
		for w.next != unlink {
			w.step(t, m)
		}
		m.Store(head, nextField, word)
		w.step(t, m)
		if has(m, head, nextField) != word || w.anews != 1 {
			t.Errorf("%s: the head has %#x, %d times anew", w, has(m, head, nextField), w.anews)
		}
		wantAccess(t, "anew", m, loading(m, head, nextField), func() { w.find.Step(m, w.guard) })
	}
}

// changes are what others may write between two steps, over words that a world has and over others.
func changes(m *mem.Mem, place, level int) []func() {
	x := linked(place)
	return []func(){
		func() { m.Store(x, nextField+level, has(m, x, nextField+level)|mark) },
		func() { m.Store(x, nextField+level, has(m, x, nextField+level)&^mark) },
		func() { m.Store(x, nextField+level, 0) },
		func() { m.Store(x, nextField+level, named(place, 9)) },
		func() { m.Store(x, nextField+level, named(60, 1)) },
		func() { m.Store(x, keyField, 0) },
		func() { m.Store(x, keyField, greatestWord) },
		func() { m.Store(head, nextField+level, has(m, x, nextField+level)&^mark) },
		func() { m.Store(head, nextField+level, mark) },
		func() { m.Store(head, nextField+level, x) },
		func() { m.Release(place, uint64(genOf(place)+1)<<2) },
		func() { m.Tick() },
	}
}

func TestChangesBetweenTwoSteps(t *testing.T) { // P11.1, P11.2, R8
	nodes := []node{{10, 2, 0}, {20, 2, 3}, {30, 1, 0}}
	for _, k := range []uint64{5, 10, 15, 20, 25, 30, 35} {
		for at := range 26 {
			for place := 1; place <= 4; place++ {
				for level := range 2 {
					for i := range 12 {
						m := worldOf(t, 2, nodes...)
						w := watch(t, m, k, 0)
						for step := 0; step < 60 && w.next != over; step++ {
							if step == at {
								changes(m, place, level)[i]()
							}
							w.step(t, m)
						}
					}
				}
			}
		}
	}
}

func TestANodeIsDeletedBetweenTwoSteps(t *testing.T) { // P11.1
	for at := range 30 {
		m := worldOf(t, 2, node{10, 1, 0}, node{20, 2, 0}, node{30, 2, 0})
		w := watch(t, m, 25, 0)
		for step := 0; step < stepsAlone && (w.next != over || step <= at); step++ {
			if step == at {
				m.Store(linked(2), nextField+1, linked(3)|mark)
				m.Store(linked(2), nextField, linked(3)|mark)
			}
			w.step(t, m)
		}
		w.toEnd(t, m, 1)
		again := wantAlone(t, m, 25)
		again.wantEnd(t, "another find", 0, ended{linked(1), linked(3), 30})
		again.wantEnd(t, "another find", 1, ended{head, linked(3), 30})
	}
}

// TestTwoFindsAtOnce tries each way in which the first steps of two finds can be mixed, over nodes that both unlink.
func TestTwoFindsAtOnce(t *testing.T) { // P11.1, P11.2
	nodes := []node{{10, 1, 1}, {20, 1, 1}, {30, 1, 0}}
	const mixed = 13
	for script := range 1 << mixed {
		m := worldOf(t, 1, nodes...)
		finds := []*watched{watch(t, m, 15, 0), watch(t, m, 25, 1)}
		for i := range mixed {
			finds[script>>i&1].step(t, m)
		}
		for _, w := range finds {
			w.toEnd(t, m, stepsAlone)
			w.wantEnd(t, w.String(), 0, ended{head, linked(3), 30})
		}
		if has(m, head, nextField) != linked(3) || has(m, linked(1), nextField) != linked(2)|mark || has(m, linked(2), nextField) != linked(3)|mark {
			t.Fatalf("script %b: the words %v", script, m.Bank().Cells())
		}
	}
}

func TestAt(t *testing.T) { // P11.2
	m := worldOf(t, 2, node{10, 1, 0}, node{20, 2, 0})
	w := watch(t, m, 30, 0)
	m.Clock()
	m.Clock()
	at := 0
	for w.next != over {
		low := w.next == read && w.level == 0
		w.step(t, m)
		if low {
			at = m.Bank().Count()
		}
		if w.find.At() != at {
			t.Fatalf("%s: At %d; want %d", w, w.find.At(), at)
		}
	}
	for range 3 {
		m.Clock()
		w.find.Step(m, w.guard)
	}
	if w.find.At() != at || at == 0 || at == m.Bank().Count() {
		t.Errorf("At %d behind the end; want %d", w.find.At(), at)
	}
}

func TestLevelsThatThereAreNot(t *testing.T) { // P11.2
	for height := 1; height <= 6; height++ {
		m := worldOf(t, height, node{10, height, 0}, node{20, height, 0})
		w := watch(t, m, 15, 0)
		w.toEnd(t, m, stepsAlone)
		for level := range height {
			w.wantEnd(t, "there", level, ended{linked(1), linked(2), 20})
		}
		for _, level := range []int{math.MinInt, -height, -1, height, height + 1, 6, 7, math.MaxInt} {
			w.wantEnd(t, "not there", level, ended{})
		}
	}
}

func TestFindsKeepApart(t *testing.T) { // R6
	m, other := worldOf(t, 1, node{10, 1, 0}), worldOf(t, 2, node{10, 2, 0})
	a, b := watch(t, m, 5, 0), watch(t, other, 15, 0)
	for a.next != over || b.next != over {
		a.step(t, m)
		b.step(t, other)
	}
	a.wantEnd(t, "one", 0, ended{head, linked(1), 10})
	b.wantEnd(t, "the other", 1, ended{pred: linked(1)})
}

func TestGuardOfAThreadThatThereIsNot(t *testing.T) { // P11.1, R1
	for _, thread := range []int{math.MinInt, -1, 2, 8, 1 << 32, math.MaxInt} {
		m := worldOf(t, 2, node{10, 2, 3}, node{20, 1, 0})
		words := m.Bank().Cells()
		ends := aloneEnds(m.Config(), words, 15)
		w := watch(t, m, 15, thread)
		w.toEnd(t, m, stepsAlone)
		for level, e := range ends {
			w.wantEnd(t, fmt.Sprintf("thread %d", thread), level, e)
		}
		if !slices.Equal(m.Bank().Cells(), words) {
			t.Errorf("thread %d: the words %v; want %v", thread, m.Bank().Cells(), words)
		}
	}
}

func TestWordsOfSlotsThatThereAreNot(t *testing.T) { // P11.1, R1
	for _, index := range []int{3, 64, 65, 1 << 31, 1<<32 - 1} {
		x := named(index, 5)
		for _, k := range []uint64{0, 1} {
			m := worldOf(t, 1, node{10, 1, 0})
			m.Store(head, nextField, x)
			w := watch(t, m, k, 0)
			w.toEnd(t, m, 20)
			want := ended{head, x, 0} // a key that there is not is 0
			if k > 0 {
				want = ended{pred: x}
			}
			w.wantEnd(t, fmt.Sprintf("slot %d, find of %d", index, k), 0, want)
		}
	}
}

func TestRings(t *testing.T) { // P11.1, R1, R8
	for length := 1; length <= 3; length++ {
		for deleted := range 1 << length {
			nodes := make([]node, length)
			for i := range nodes {
				nodes[i] = node{uint64(10 * (i + 1)), 1, deleted >> i & 1}
			}
			m := worldOf(t, 1, nodes...)
			last := linked(length)
			m.Store(last, nextField, linked(1)|has(m, last, nextField))
			w := watch(t, m, 99, 0)
			for range 200 {
				w.step(t, m)
			}
			// Where one is not deleted there is no way out; where all are, the last of them is unlinked in favour of the next, for ever.
			if w.next == over {
				t.Errorf("%s: an end of a ring of %d, deleted %b", w, length, deleted)
			}
		}
	}
}

func TestTheHeadAsANode(t *testing.T) { // P11.1, R1
	m := worldOf(t, 1, node{10, 1, 0})
	m.Store(linked(1), nextField, head)
	w := watch(t, m, 0, 0)
	w.toEnd(t, m, 20)
	w = watch(t, m, 20, 0)
	for range 100 {
		w.step(t, m)
	}
}

// rolls tells words that hang on nothing but those ahead of them.
func rolls(seed uint64) func() uint64 {
	return func() uint64 {
		seed ^= seed << 13
		seed ^= seed >> 7
		seed ^= seed << 17
		return seed
	}
}

func TestAnyWords(t *testing.T) { // P11.1, R1, R8
	for seed := uint64(1); seed <= 400; seed++ {
		roll := rolls(seed * 0x9e3779b97f4a7c15)
		c := api.Config{Threads: 1 + int(roll()%2), Slots: 1 + int(roll()%3), Cap: 1 + int(roll()%4), Height: 1 + int(roll()%6), Keep: 1, Every: 1, Last: 9}
		plain := worldWith(t, c, make([]uint64, 1+c.Threads*c.Slots+(c.Cap+1)*(6+c.Height)))
		words := plain.Bank().Cells()
		for i := range words {
			words[i] = roll()
			switch roll() % 4 {
			case 0:
				words[i] = named(int(roll()%uint64(c.Cap+2)), 0)
			case 1:
				words[i] %= 8
			case 2:
				words[i] = named(int(roll()%uint64(c.Cap+2)), 1) | roll()&mark
			}
		}
		m := worldWith(t, c, words)
		w := watch(t, m, roll()>>(roll()%64), int(roll()%3))
		for i := 0; i < 200 && w.next != over; i++ {
			if roll()%16 == 0 {
				m.Tick()
			}
			w.step(t, m)
		}
	}
}

func TestStepsOverWorldsThatChange(t *testing.T) { // R1, R8
	small, great := worldOf(t, 1, node{10, 1, 0}), worldOf(t, 6, node{10, 6, 0}, node{20, 3, 7}, node{30, 6, 63})
	for _, l := range [][]*mem.Mem{{small, great}, {great, small}, {great, great, great, small}} {
		for _, k := range []uint64{0, 15, 99} {
			f, g := find.New(k), guard.New(0)
			for i := range 200 {
				m := l[i%len(l)]
				done, count := f.Done(), m.Bank().Count()
				f.Step(m, g)
				if n := m.Bank().Count() - count; n > 1 || n == 0 != done {
					t.Fatalf("find of %d: %d accesses, Done %v", k, n, done)
				}
				for level := -1; level <= 7; level++ {
					f.Pred(level)
					f.Succ(level)
					f.Key(level)
				}
			}
		}
	}
}
