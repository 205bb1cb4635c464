package build_test

import (
	"fmt"
	"math"
	"slices"
	"testing"

	"stepstone/api"
	"stepstone/bank"
	"stepstone/build"
	"stepstone/find"
	"stepstone/guard"
	"stepstone/help"
	"stepstone/mem"
)

const (
	greatestWord = uint64(math.MaxUint64)
	mark         = uint64(1) << 62
	head         = uint64(1) << 63 // index 0, generation 0
)

// The fields, as chapter 4 counts them; next is that of level 0.
const (
	keyField  = 1
	tallField = 4
	nextField = 6
)

// Handles and cells are worked out by the words of chapters 1 and 4, so that they don't err along with the packages.

func named(index, gen int) uint64 { return 1<<63 | uint64(gen)<<32 | uint64(index) }

func valid(w uint64) bool { return w>>63 == 1 }

func marked(w uint64) bool { return w>>62&1 == 1 }

const clockCell = 0

// cellOf tells the cell of a field of the slot of h's index, -1 if there is none.
func cellOf(c api.Config, h uint64, field int) int {
	index := int(uint32(h))
	if index > c.Cap || field >= 6+c.Height {
		return -1
	}
	return 1 + c.Threads*c.Slots + index*(6+c.Height) + field
}

func reservation(c api.Config, thread, slot int) int { return 1 + thread*c.Slots + slot }

// node is linked on the levels from 0 to linked - 1; the bits of deleted say on which its Next has the mark, from level 0 on.
type node struct {
	key     uint64
	linked  int
	deleted int
}

func (n node) deletedOn(level int) bool { return n.deleted>>level&1 == 1 }

func config(height, most int) api.Config {
	return api.Config{Threads: 2, Slots: 2, Cap: most, Height: height, Keep: 1, Every: 1, Last: 9}
}

// genOf lets the nodes be of several generations.
func genOf(index int) int { return index % 3 }

// linked tells the handle of the node at that place of the list, from 1 on, as worldOf has them.
func linked(place int) uint64 { return named(place, genOf(place)) }

// spare is the handle of the slot behind those of that many nodes, which worldOf leaves free.
func spare(nodes int) uint64 { return linked(nodes + 1) }

// worldOf has these nodes in the slots from 1 on, linked in their order on each level, and one slot more.
func worldOf(t *testing.T, height int, nodes ...node) *mem.Mem {
	t.Helper()
	c := config(height, len(nodes)+1)
	m, e := mem.New(c)
	if e != api.OK {
		t.Fatalf("New(%+v): error %d", c, e)
	}
	cells := m.Bank().Cells()
	for i, n := range nodes {
		cells[cellOf(c, linked(i+1), 0)] = uint64(genOf(i+1))<<2 | 1
		cells[cellOf(c, linked(i+1), keyField)] = n.key
		cells[cellOf(c, linked(i+1), tallField)] = uint64(height)
	}
	for level := range height {
		last := cellOf(c, head, nextField+level)
		for i, n := range nodes {
			own := cellOf(c, linked(i+1), nextField+level)
			if n.deletedOn(level) {
				cells[own] = mark
			}
			if n.linked > level {
				cells[last] |= linked(i + 1)
				last = own
			}
		}
	}
	return worldWith(t, c, cells)
}

func worldWith(t *testing.T, c api.Config, cells []uint64) *mem.Mem {
	t.Helper()
	m, e := mem.Of(c, cells)
	if e != api.OK {
		t.Fatalf("Of(%+v): error %d", c, e)
	}
	return m
}

// has tells what a field has without an access.
func has(m *mem.Mem, h uint64, field int) uint64 {
	cell := cellOf(m.Config(), h, field)
	if cell < 0 {
		return 0
	}
	return m.Bank().Cells()[cell]
}

// names tells what the node names on the level, without an access.
func names(m *mem.Mem, h uint64, level int) uint64 { return has(m, h, nextField+level) }

func loading(m *mem.Mem, h uint64, field int) bank.Access {
	w := has(m, h, field)
	cell := cellOf(m.Config(), h, field)
	return bank.Access{Kind: bank.Loads, Cell: cell, Via: h &^ mark, Old: w, New: w, Done: cell >= 0}
}

func swapping(m *mem.Mem, h uint64, field int, old, v uint64) bank.Access {
	a := loading(m, h, field)
	a.Kind, a.Done = bank.Swaps, a.Cell >= 0 && a.Old == old
	if a.Done {
		a.New = v
	}
	return a
}

// wantAccess does something that is to be just that one access of the world.
func wantAccess(t *testing.T, what any, m *mem.Mem, want bank.Access, do func()) {
	t.Helper()
	had, count := m.Bank().Cells(), m.Bank().Count()
	do()
	if n := m.Bank().Count() - count; n != 1 {
		t.Fatalf("%v: %d accesses; want 1", what, n)
	}
	if a := m.Bank().Last(); a != want {
		t.Fatalf("%v: the access %+v; want %+v", what, a, want)
	}
	if want.Cell >= 0 {
		had[want.Cell] = want.New
	}
	if cells := m.Bank().Cells(); !slices.Equal(cells, had) {
		t.Fatalf("%v: cells %v; want %v", what, cells, had)
	}
}

// What comes next, by the words of the chapter.
const (
	toFind = "find"
	own    = "own"
	set    = "set"
	link   = "link"
	over   = "over"
)

// watched is a build with its guard, and what it should do by the words of the chapter. What a find does is asked of another find, which goes on beside it in a copy of the world.
type watched struct {
	build  *build.Build
	guard  *guard.Guard
	h, k   uint64
	tall   int
	next   string
	level  int
	w      uint64
	find   *find.Find
	beside *guard.Guard
	finds  int      // how many finds it began
	trace  []string // the steps, all of a find as one
}

func watch(t *testing.T, m *mem.Mem, h, k uint64, tall, thread int) *watched {
	t.Helper()
	w := &watched{build: build.New(h, k, tall), guard: guard.New(thread), h: h, k: k, tall: tall, next: over, level: 1, beside: guard.New(thread)}
	if tall >= 2 {
		w.anew()
	}
	w.wantTold(t, m)
	return w
}

func (w *watched) anew() {
	w.find, w.next = find.New(w.k), toFind
	w.finds++
	w.trace = append(w.trace, toFind)
}

func (w *watched) String() string {
	return fmt.Sprintf("build of %#x, key %d, tall %d: %s of level %d, behind %v", w.h, w.k, w.tall, w.next, w.level, w.trace)
}

// wants tells the access that the next Step is to be.
func (w *watched) wants(t *testing.T, m *mem.Mem) bank.Access {
	switch field := nextField + w.level; w.next {
	case own:
		return loading(m, w.h, field)
	case set:
		return swapping(m, w.h, field, w.w, w.find.Succ(w.level))
	case link:
		return swapping(m, w.find.Pred(w.level), field, w.find.Succ(w.level), w.h)
	}
	other := worldWith(t, m.Config(), m.Bank().Cells())
	w.find.Step(other, w.beside)
	return other.Bank().Last()
}

// goesOn takes down what came of the access.
func (w *watched) goesOn(m *mem.Mem, a bank.Access) {
	if w.next != toFind {
		w.trace = append(w.trace, w.next)
	}
	switch w.next {
	case toFind:
		if w.find.Done() {
			w.looked(m)
		}
	case own:
		w.w, w.next = a.Old, set
		if marked(a.Old) {
			w.next = over
		} else if a.Old == w.find.Succ(w.level) {
			w.next = link
		}
	case set:
		w.next = own
		if a.Done {
			w.next = link
		}
	case link:
		if !a.Done {
			w.anew()
			return
		}
		w.level++
		w.looked(m)
	}
}

func (w *watched) looked(m *mem.Mem) {
	w.next = own
	if w.level == w.tall || w.level >= m.Config().Height {
		w.next = over
	}
	if w.find.Succ(w.level) != 0 && w.find.Key(w.level) == w.k {
		w.next = over
	}
}

func (w *watched) step(t *testing.T, m *mem.Mem) {
	t.Helper()
	if w.next == over {
		w.wantIdle(t, m)
		return
	}
	a := w.wants(t, m)
	wantAccess(t, w, m, a, func() { w.build.Step(m, w.guard) })
	w.goesOn(m, a)
	w.wantTold(t, m)
}

// wantTold holds what the build tells against what it should, and that telling is no access.
func (w *watched) wantTold(t *testing.T, m *mem.Mem) {
	t.Helper()
	count := m.Bank().Count()
	if done := w.next == over; w.build.Done() != done {
		t.Fatalf("%s: Done %v", w, w.build.Done())
	}
	if w.build.Level() != w.level {
		t.Fatalf("%s: Level %d", w, w.build.Level())
	}
	if w.guard.Latest() != w.beside.Latest() {
		t.Fatalf("%s: the latest is %d; want %d", w, w.guard.Latest(), w.beside.Latest())
	}
	if m.Bank().Count() != count {
		t.Fatalf("%s: what is told was an access", w)
	}
}

func (w *watched) wantIdle(t *testing.T, m *mem.Mem) {
	t.Helper()
	had, count := m.Bank().Cells(), m.Bank().Count()
	for range 3 {
		w.build.Step(m, w.guard)
	}
	if m.Bank().Count() != count || !slices.Equal(m.Bank().Cells(), had) {
		t.Fatalf("%s: a Step behind the end did something", w)
	}
	w.wantTold(t, m)
}

// toEnd steps to the end, which is to come within that many steps.
func (w *watched) toEnd(t *testing.T, m *mem.Mem, most int) {
	t.Helper()
	for steps := 0; w.next != over; steps++ {
		if steps == most {
			t.Fatalf("%s: no end in %d steps", w, most)
		}
		w.step(t, m)
	}
	w.wantIdle(t, m)
}

// to steps until that is next, of that level.
func (w *watched) to(t *testing.T, m *mem.Mem, next string, level int) {
	t.Helper()
	for w.next != next || w.level != level {
		if w.next == over {
			t.Fatalf("%s: did not come to %s of level %d", w, next, level)
		}
		w.step(t, m)
	}
}

func (w *watched) wantTrace(t *testing.T, want ...string) {
	t.Helper()
	if !slices.Equal(w.trace, want) {
		t.Errorf("%s: want the steps %v", w, want)
	}
}

// wantRow tells that on the level these are linked, from the head on, and no other.
func wantRow(t *testing.T, what any, m *mem.Mem, level int, want ...uint64) {
	t.Helper()
	if l := row(m, level); !slices.Equal(l, want) {
		t.Fatalf("%v: level %d has %#x; want %#x", what, level, l, want)
	}
}

// row tells what is linked on a level, up to more than any of these worlds has.
func row(m *mem.Mem, level int) []uint64 {
	var l []uint64
	for h := names(m, head, level); valid(h) && len(l) < 20; h = names(m, h, level) &^ mark {
		l = append(l, h)
	}
	return l
}

// stepsAlone is more than a build alone takes in any of these worlds.
const stepsAlone = 500

func TestExamples(t *testing.T) { // P13.1, P13.2
	for _, x := range []struct{ deleted, level int }{{0, 3}, {7, 1}} {
		m := worldOf(t, 3, node{4, 1, x.deleted})
		b, g := build.New(linked(1), 4, 3), guard.New(0)
		if b.Done() || b.Level() != 1 {
			t.Errorf("deleted %b: Done %v, Level %d at first", x.deleted, b.Done(), b.Level())
		}
		for i := 0; i < stepsAlone && !b.Done(); i++ {
			b.Step(m, g)
		}
		if !b.Done() || b.Level() != x.level {
			t.Errorf("deleted %b: Done %v, Level %d; want %d", x.deleted, b.Done(), b.Level(), x.level)
		}
		for level := 1; level < 3; level++ {
			if on := names(m, head, level) == linked(1); on != (x.deleted == 0) {
				t.Errorf("deleted %b: the head names %#x on level %d", x.deleted, names(m, head, level), level)
			}
		}
	}
}

// TestEachStep writes each access of a build down, by no model and no find.
func TestEachStep(t *testing.T) { // P13.1
	m := worldOf(t, 3, node{2, 2, 0}, node{4, 1, 0}, node{6, 2, 0})
	c := m.Config()
	a, x, z := linked(1), linked(2), linked(3)
	xNext := cellOf(c, x, nextField)
	const era = 1
	now := bank.Access{Kind: bank.Loads, Cell: clockCell, Old: era, New: era, Done: true}
	loads := func(h uint64, field int, w uint64) bank.Access {
		return bank.Access{Kind: bank.Loads, Cell: cellOf(c, h, field), Via: h, Old: w, New: w, Done: true}
	}
	b, g := build.New(x, 4, 3), guard.New(1)
	for i, want := range []struct {
		bank.Access
		level int // behind the step
	}{
		{loads(head, nextField+2, 0), 1},
		{loads(head, nextField+1, a), 1},
		{now, 1},
		{bank.Access{Kind: bank.Stores, Cell: reservation(c, 1, 0), New: era, Done: true}, 1},
		{loads(head, nextField+1, a), 1},
		{now, 1},
		{loads(a, nextField+1, z), 1},
		{loads(a, keyField, 2), 1},
		{loads(a, nextField+1, z), 1},
		{now, 1},
		{loads(z, nextField+1, 0), 1},
		{loads(z, keyField, 6), 1},
		{loads(a, nextField, x), 1},
		{now, 1},
		{loads(x, nextField, z), 1},
		{loads(x, keyField, 4), 1},
		{loads(x, nextField+1, 0), 1},
		{bank.Access{Kind: bank.Swaps, Cell: xNext + 1, Via: x, Old: 0, New: z, Done: true}, 1},
		{bank.Access{Kind: bank.Swaps, Cell: cellOf(c, a, nextField+1), Via: a, Old: z, New: x, Done: true}, 2},
		{loads(x, nextField+2, 0), 2},
		{bank.Access{Kind: bank.Swaps, Cell: cellOf(c, head, nextField+2), Via: head, Old: 0, New: x, Done: true}, 3},
	} {
		if b.Done() {
			t.Fatalf("step %d: Done", i)
		}
		wantAccess(t, fmt.Sprintf("step %d", i), m, want.Access, func() { b.Step(m, g) })
		if b.Level() != want.level {
			t.Fatalf("step %d: Level %d; want %d", i, b.Level(), want.level)
		}
	}
	if !b.Done() {
		t.Error("not Done behind the highest level")
	}
}

func TestOneLevel(t *testing.T) { // P13.1
	for _, tall := range []int{math.MinInt, -1 << 32, -2, -1, 0, 1} {
		for height := 1; height <= 6; height++ {
			m := worldOf(t, height, node{4, 1, 0})
			words := m.Bank().Cells()
			w := watch(t, m, linked(1), 4, tall, 0)
			if !w.build.Done() || w.build.Level() != 1 {
				t.Errorf("tall %d: Done %v, Level %d", tall, w.build.Done(), w.build.Level())
			}
			w.wantIdle(t, m)
			if m.Bank().Count() != 0 || !slices.Equal(m.Bank().Cells(), words) {
				t.Errorf("tall %d: %d accesses", tall, m.Bank().Count())
			}
		}
	}
}

func TestTall(t *testing.T) { // P13.1, P13.2
	for height := 1; height <= 6; height++ {
		for _, tall := range []int{2, 3, 4, 5, 6, 7, 8, 64, 1 << 32, math.MaxInt} {
			m := worldOf(t, height, node{2, height, 0}, node{4, 1, 0}, node{6, height, 0})
			w := watch(t, m, linked(2), 4, tall, 0)
			w.toEnd(t, m, stepsAlone)
			top := min(tall, height)
			if w.build.Level() != top {
				t.Errorf("%s, Height %d: Level %d; want %d", w, height, w.build.Level(), top)
			}
			for level := range height {
				if level < top {
					wantRow(t, w, m, level, linked(1), linked(2), linked(3))
				} else {
					wantRow(t, w, m, level, linked(1), linked(3))
				}
			}
		}
	}
}

// TestAWorldOfOneLevel ends with the find.
func TestAWorldOfOneLevel(t *testing.T) { // P13.1
	m := worldOf(t, 1, node{4, 1, 0})
	w := watch(t, m, linked(1), 4, 2, 0)
	w.toEnd(t, m, stepsAlone)
	w.wantTrace(t, toFind)
	if m.Bank().Count() != 7 || w.build.Level() != 1 {
		t.Errorf("%s: %d accesses; want 7, those of the find", w, m.Bank().Count())
	}
}

// alone works out by the words themselves what a find alone unlinks, and then links h on the levels below top.
func alone(c api.Config, words []uint64, h, k uint64, top int) {
	preds := make([]uint64, c.Height)
	pred := head
	for level := c.Height - 1; level >= 0; level-- {
		for {
			from := cellOf(c, pred, nextField+level)
			x := words[from]
			if !valid(x) {
				break
			}
			if behind := words[cellOf(c, x, nextField+level)]; marked(behind) {
				words[from] = behind &^ mark
				continue
			}
			if words[cellOf(c, x, keyField)] >= k {
				break
			}
			pred = x
		}
		preds[level] = pred
	}
	for level := 1; level < top; level++ {
		from := cellOf(c, preds[level], nextField+level)
		words[cellOf(c, h, nextField+level)], words[from] = words[from], h
	}
}

// wantAlone lets a build of the node at that place go alone, and holds what it leaves against the words.
func wantAlone(t *testing.T, m *mem.Mem, place int, k uint64, tall int) {
	t.Helper()
	words, top := m.Bank().Cells(), min(max(tall, 1), m.Config().Height)
	w := watch(t, m, linked(place), k, tall, 1)
	w.toEnd(t, m, stepsAlone)
	if w.build.Level() != top {
		t.Fatalf("%s: Level %d; want %d", w, w.build.Level(), top)
	}
	if tall >= 2 {
		words[reservation(m.Config(), 1, 0)] = 1
		alone(m.Config(), words, linked(place), k, top)
	}
	if !slices.Equal(m.Bank().Cells(), words) {
		t.Fatalf("%s: leaves %v; want %v", w, m.Bank().Cells(), words)
	}
	for level := range top {
		if !slices.Contains(row(m, level), linked(place)) {
			t.Fatalf("%s: not linked on level %d", w, level)
		}
	}
}

// TestAloneOverAllNodes has each place among others of all heights; what its Next has ahead of it is none, or what was there before.
func TestAloneOverAllNodes(t *testing.T) { // P13.1, P13.2
	for height := 2; height <= 4; height++ {
		for others := range 4 {
			scripts(others, height, func(heights []int) {
				for place := 1; place <= others+1; place++ {
					for tall := 1; tall <= height+1; tall++ {
						for _, before := range []uint64{0, spare(others + 1), linked(1), 7} {
							l := listOf(heights, place)
							m := worldOf(t, height, l...)
							cells := m.Bank().Cells()
							for level := 1; level < height; level++ {
								cells[cellOf(m.Config(), linked(place), nextField+level)] = before
							}
							wantAlone(t, worldWith(t, m.Config(), cells), place, l[place-1].key, tall)
						}
					}
				}
			})
		}
	}
}

// listOf has the others linked on as many levels as heights says and one, and one that is linked on level 0 alone at that place.
func listOf(heights []int, place int) []node {
	var l []node
	for _, n := range heights {
		l = append(l, node{linked: n + 1})
	}
	l = slices.Insert(l, place-1, node{linked: 1})
	for i := range l {
		l[i].key = uint64(10 * (i + 1))
	}
	return l
}

func TestAloneAmongDeletedOnes(t *testing.T) { // P13.1, P13.2
	for deleted := range 1 << 4 {
		for place := 1; place <= 5; place++ {
			l := listOf([]int{2, 0, 1, 2}, place)
			other := 0
			for i := range l {
				if i != place-1 {
					l[i].deleted = deleted >> other & 1 * 7
					other++
				}
			}
			wantAlone(t, worldOf(t, 3, l...), place, l[place-1].key, 3)
		}
	}
}

func TestKeysAtTheEnds(t *testing.T) { // P13.1, P13.2
	l := []node{{0, 1, 0}, {1, 3, 0}, {1 << 63, 1, 0}, {greatestWord - 1, 3, 0}, {greatestWord, 1, 0}}
	for _, place := range []int{1, 3, 5} {
		wantAlone(t, worldOf(t, 3, l...), place, l[place-1].key, 3)
	}
	for _, k := range []uint64{0, 1, greatestWord} {
		wantAlone(t, worldOf(t, 3, node{k, 1, 0}), 1, k, 3)
	}
}

func TestTraces(t *testing.T) { // P13.1
	for _, x := range []struct {
		what  string
		tall  int
		own   [2]uint64 // what it names ahead of it on the levels 1 and 2
		nodes []node
		want  []string
	}{
		{"alone, below", 2, [2]uint64{}, []node{{30, 3, 0}}, []string{toFind, own, set, link}},
		{"alone, above", 2, [2]uint64{}, []node{{10, 3, 0}}, []string{toFind, own, link}},
		{"no other, both levels", 3, [2]uint64{}, nil, []string{toFind, own, link, own, link}},
		{"what was there before", 3, [2]uint64{named(9, 1), 5}, nil, []string{toFind, own, set, link, own, set, link}},
		{"named already", 2, [2]uint64{linked(2)}, []node{{30, 2, 0}}, []string{toFind, own, link}},
		{"between", 3, [2]uint64{}, []node{{10, 3, 0}, {30, 2, 0}}, []string{toFind, own, set, link, own, link}},
		{"marked on level 1", 3, [2]uint64{mark}, nil, []string{toFind, own}},
		{"marked, and named", 3, [2]uint64{linked(2) | mark}, []node{{30, 2, 0}}, []string{toFind, own}},
		{"marked on level 2", 3, [2]uint64{0, mark}, nil, []string{toFind, own, link, own}},
		{"tall 2, marked on level 2", 2, [2]uint64{0, mark}, nil, []string{toFind, own, link}},
	} {
		place := 1
		if len(x.nodes) > 0 && x.nodes[0].key < 20 {
			place = 2
		}
		m := worldOf(t, 3, slices.Insert(x.nodes, place-1, node{20, 1, 0})...)
		cells := m.Bank().Cells()
		for i, w := range x.own {
			cells[cellOf(m.Config(), linked(place), nextField+1+i)] = w
		}
		m = worldWith(t, m.Config(), cells)
		w := watch(t, m, linked(place), 20, x.tall, 0)
		w.toEnd(t, m, stepsAlone)
		if !slices.Equal(w.trace, x.want) {
			t.Errorf("%s: %s; want %v", x.what, w, x.want)
		}
	}
}

// TestAnotherOneOfItsKey stands on the level that is looked at: the node was deleted, and put again.
func TestAnotherOneOfItsKey(t *testing.T) { // P13.1, P13.2
	for levels := 2; levels <= 3; levels++ {
		for _, k := range []uint64{0, 4, greatestWord} {
			m := worldOf(t, 3, node{k, levels, 0})
			words := m.Bank().Cells()
			w := watch(t, m, spare(1), k, 3, 0)
			w.toEnd(t, m, stepsAlone)
			w.wantTrace(t, toFind)
			words[reservation(m.Config(), 0, 0)] = 1
			if w.build.Level() != 1 || !slices.Equal(m.Bank().Cells(), words) {
				t.Errorf("%s: leaves %v; want %v", w, m.Bank().Cells(), words)
			}
		}
	}
}

// TestAnotherOneOfItsKeyBelow stands on level 0 alone: it is not on the level that is looked at.
func TestAnotherOneOfItsKeyBelow(t *testing.T) { // P13.1
	m := worldOf(t, 3, node{4, 1, 0})
	w := watch(t, m, spare(1), 4, 3, 0)
	w.toEnd(t, m, stepsAlone)
	w.wantTrace(t, toFind, own, link, own, link)
	wantRow(t, w, m, 0, linked(1))
	wantRow(t, w, m, 1, spare(1))
}

// TestAnotherOneOfItsKeyAbove stands on level 2, of a find that has ended ahead of the link on level 1.
func TestAnotherOneOfItsKeyAbove(t *testing.T) { // P13.1
	m := worldOf(t, 3, node{4, 1, 0}, node{6, 1, 0})
	m.Store(head, nextField+2, spare(2))
	m.Store(spare(2), keyField, 4)
	w := watch(t, m, linked(1), 4, 3, 0)
	w.toEnd(t, m, stepsAlone)
	w.wantTrace(t, toFind, own, link)
	if w.build.Level() != 2 || names(m, head, 1) != linked(1) || names(m, head, 2) != spare(2) {
		t.Errorf("%s: level 1 has %#x, level 2 %#x", w, names(m, head, 1), names(m, head, 2))
	}
}

// TestNoSuccAndTheKeyZero has a find whose Key is k, but of no node.
func TestNoSuccAndTheKeyZero(t *testing.T) { // P13.1
	m := worldOf(t, 3, node{0, 1, 0})
	w := watch(t, m, linked(1), 0, 3, 0)
	w.toEnd(t, m, stepsAlone)
	w.wantTrace(t, toFind, own, link, own, link)
	for level := range 3 {
		wantRow(t, w, m, level, linked(1))
	}
}

// TestItselfOnALevel is linked there already.
func TestItselfOnALevel(t *testing.T) { // P13.1
	m := worldOf(t, 3, node{4, 2, 0})
	w := watch(t, m, linked(1), 4, 3, 0)
	w.toEnd(t, m, stepsAlone)
	w.wantTrace(t, toFind)
	wantRow(t, w, m, 2)
}

// TestAKeyThatIsNotTheNodes asks New's k alone: the node's own key is not asked for.
func TestAKeyThatIsNotTheNodes(t *testing.T) { // P13.1, R1
	for _, k := range []uint64{0, 5, 25, 30, greatestWord} {
		m := worldOf(t, 2, node{10, 2, 0}, node{20, 1, 0}, node{30, 2, 0})
		w := watch(t, m, linked(2), k, 2, 0)
		w.toEnd(t, m, stepsAlone)
		switch k {
		case 0, 5:
			wantRow(t, w, m, 1, linked(2), linked(1), linked(3))
		case 25:
			wantRow(t, w, m, 1, linked(1), linked(2), linked(3))
		case 30:
			wantRow(t, w, m, 1, linked(1), linked(3))
		default:
			wantRow(t, w, m, 1, linked(1), linked(3), linked(2))
		}
	}
}

// TestASetThatIsLost changes the node's word behind the look at it.
func TestASetThatIsLost(t *testing.T) { // P13.1
	for level := 1; level <= 2; level++ {
		for _, word := range []uint64{7, spare(3), linked(1), linked(3), 1<<62 - 1, greatestWord &^ mark} {
			m := worldOf(t, 3, node{10, 3, 0}, node{20, 1, 0}, node{30, 3, 0})
			w := watch(t, m, linked(2), 20, 3, 0)
			w.to(t, m, set, level)
			m.Store(linked(2), nextField+level, word)
			w.step(t, m)
			if w.next != own || w.level != level || names(m, linked(2), level) != word {
				t.Fatalf("%s: %#x has come to %#x", w, word, names(m, linked(2), level))
			}
			steps := len(w.trace)
			w.toEnd(t, m, stepsAlone)
			if after := w.trace[steps:]; word == linked(3) && after[1] != link || word != linked(3) && after[1] != set {
				t.Errorf("%s: behind the set that was lost to %#x: %v", w, word, after)
			}
			for level := range 3 {
				wantRow(t, w, m, level, linked(1), linked(2), linked(3))
			}
			if w.finds != 1 {
				t.Errorf("%s: %d finds", w, w.finds)
			}
		}
	}
}

// TestASetThatIsLostToAMark is of a node that is deleted behind the look at its word.
func TestASetThatIsLostToAMark(t *testing.T) { // P13.1, P13.2
	for level := 1; level <= 2; level++ {
		for _, word := range []uint64{mark, linked(3) | mark, spare(3) | mark, greatestWord} {
			m := worldOf(t, 3, node{10, 3, 0}, node{20, 1, 0}, node{30, 3, 0})
			w := watch(t, m, linked(2), 20, 3, 0)
			w.to(t, m, set, level)
			m.Store(linked(2), nextField+level, word)
			steps := len(w.trace)
			w.toEnd(t, m, 2)
			if !slices.Equal(w.trace[steps:], []string{set, own}) || w.build.Level() != level {
				t.Errorf("%s: behind the mark: %v", w, w.trace[steps:])
			}
			if names(m, linked(2), level) != word {
				t.Errorf("%s: the word has come to %#x; want %#x", w, names(m, linked(2), level), word)
			}
			wantRow(t, w, m, level, linked(1), linked(3))
		}
	}
}

// TestASetThatCantTell has a word that is changed, and changed back.
func TestASetThatCantTell(t *testing.T) { // P13.1
	m := worldOf(t, 2, node{20, 1, 0}, node{30, 2, 0})
	w := watch(t, m, linked(1), 20, 2, 0)
	w.to(t, m, set, 1)
	m.Store(linked(1), nextField+1, spare(2))
	m.Store(linked(1), nextField+1, 0)
	w.toEnd(t, m, 2)
	w.wantTrace(t, toFind, own, set, link)
}

// TestALinkThatIsLost has another node linked between, ahead of the link: of a lesser key, of a greater one, and of the same.
func TestALinkThatIsLost(t *testing.T) { // P13.1, P13.2
	for level := 1; level <= 2; level++ {
		for _, x := range []struct {
			key  uint64
			want []uint64
			end  []string
		}{
			{15, []uint64{linked(1), spare(3), linked(2), linked(3)}, []string{link, toFind, own, link}},
			{25, []uint64{linked(1), linked(2), spare(3), linked(3)}, []string{link, toFind, own, set, link}},
			{20, []uint64{linked(1), spare(3), linked(3)}, []string{link, toFind}},
		} {
			m := worldOf(t, 3, node{10, 3, 0}, node{20, 1, 0}, node{30, 3, 0})
			w := watch(t, m, linked(2), 20, level+1, 0)
			w.to(t, m, link, level)
			m.Store(spare(3), keyField, x.key)
			m.Store(spare(3), nextField+level, linked(3))
			m.Store(linked(1), nextField+level, spare(3))
			words, steps := m.Bank().Cells(), len(w.trace)
			w.step(t, m)
			if w.next != toFind || w.level != level || !slices.Equal(m.Bank().Cells(), words) {
				t.Fatalf("%s: behind a link that is lost", w)
			}
			w.wantFirstRead(t, m)
			w.toEnd(t, m, stepsAlone)
			if !slices.Equal(w.trace[steps:], x.end) {
				t.Errorf("%s: another one of the key %d: %v; want %v", w, x.key, w.trace[steps:], x.end)
			}
			wantRow(t, w, m, level, x.want...)
		}
	}
}

// wantFirstRead does a step that is to be the first one of a find.
func (w *watched) wantFirstRead(t *testing.T, m *mem.Mem) {
	t.Helper()
	top := nextField + m.Config().Height - 1
	want := w.wants(t, m)
	if want != loading(m, head, top) {
		t.Fatalf("%s: the find begins with %+v", w, want)
	}
	wantAccess(t, w, m, want, func() { w.build.Step(m, w.guard) })
	w.goesOn(m, want)
}

// TestALinkThatIsLostToADeletedPred has a pred that is deleted, or unlinked, or another node's by now.
func TestALinkThatIsLostToADeletedPred(t *testing.T) { // P13.1, P13.2
	m := worldOf(t, 3, node{10, 3, 0}, node{20, 1, 0}, node{30, 3, 0})
	w := watch(t, m, linked(2), 20, 3, 0)
	w.to(t, m, link, 1)
	for level := 2; level >= 0; level-- {
		m.Store(linked(1), nextField+level, names(m, linked(1), level)|mark)
	}
	w.toEnd(t, m, stepsAlone)
	w.wantTrace(t, toFind, own, set, link, toFind, own, link, own, set, link)
	for level := range 3 {
		wantRow(t, w, m, level, linked(2), linked(3))
		if names(m, linked(1), level) != marksOf(level) {
			t.Errorf("%s: level %d of the pred has come to %#x", w, level, names(m, linked(1), level))
		}
	}
}

// marksOf tells what the first of three nodes names when it is deleted, where the second one is on level 0 alone.
func marksOf(level int) uint64 {
	if level == 0 {
		return linked(2) | mark
	}
	return linked(3) | mark
}

// TestAgainAndAgain has each link lost to another node.
func TestAgainAndAgain(t *testing.T) { // P13.1, R1
	m := worldOf(t, 2, node{99, 1, 0})
	w := watch(t, m, linked(1), 99, 2, 0)
	for n := range 40 {
		w.to(t, m, link, 1)
		first := names(m, head, 1)
		m.Store(head, nextField+1, named(2, n))
		m.Store(named(2, n), keyField, uint64(100+n))
		w.step(t, m)
		if w.next != toFind || names(m, head, 1) == first {
			t.Fatalf("%s: not lost", w)
		}
	}
	w.toEnd(t, m, stepsAlone)
	if w.finds != 41 {
		t.Errorf("%s: %d finds; want 41", w, w.finds)
	}
	wantRow(t, w, m, 1, linked(1), named(2, 39))
}

// TestTheSameFindOnTheNextLevel looks at no word of level 2 anew behind the link on level 1.
func TestTheSameFindOnTheNextLevel(t *testing.T) { // P13.1
	m := worldOf(t, 3, node{20, 1, 0}, node{30, 3, 0})
	w := watch(t, m, linked(1), 20, 3, 0)
	w.to(t, m, link, 1)
	m.Store(head, nextField+2, 0)
	w.step(t, m)
	if w.next != own || w.level != 2 {
		t.Fatalf("%s: want own of level 2", w)
	}
	w.step(t, m)
	w.step(t, m)
	if names(m, linked(1), 2) != linked(2) {
		t.Errorf("%s: names %#x; want what the find told", w, names(m, linked(1), 2))
	}
	w.step(t, m)
	if w.next != toFind {
		t.Errorf("%s: want a find anew", w)
	}
	w.toEnd(t, m, stepsAlone)
	wantRow(t, w, m, 2, linked(1))
}

// deleteAll deletes the node on the levels from top down, by the words.
func deleteAll(m *mem.Mem, h uint64, from, to int) {
	for level := from; level >= to; level-- {
		m.Store(h, nextField+level, names(m, h, level)|mark)
	}
}

// TestDeletedAhead is deleted on the levels from that one up: none of these is linked.
func TestDeletedAhead(t *testing.T) { // P13.1, P13.2
	for height := 2; height <= 6; height++ {
		for from := 0; from < height; from++ {
			m := worldOf(t, height, node{10, height, 0}, node{20, 1, 0}, node{30, height, 0})
			deleteAll(m, linked(2), height-1, from)
			w := watch(t, m, linked(2), 20, height, 0)
			w.toEnd(t, m, stepsAlone)
			if w.build.Level() != max(from, 1) {
				t.Errorf("%s: deleted from level %d on: Level %d", w, from, w.build.Level())
			}
			for level := 1; level < height; level++ {
				if level < from {
					wantRow(t, w, m, level, linked(1), linked(2), linked(3))
				} else {
					wantRow(t, w, m, level, linked(1), linked(3))
				}
			}
		}
	}
}

// TestDeletedBetweenTwoSteps deletes the node on all levels ahead of each step in turn: what is linked behind that is one level at most, which had been looked at.
func TestDeletedBetweenTwoSteps(t *testing.T) { // P13.1, P13.2
	for at := range 40 {
		m := worldOf(t, 4, node{10, 2, 0}, node{20, 1, 0}, node{30, 4, 0})
		w := watch(t, m, linked(2), 20, 4, 0)
		for range at {
			w.step(t, m)
		}
		next, level := w.next, w.level
		deleteAll(m, linked(2), 3, 0)
		w.toEnd(t, m, stepsAlone)
		want := level
		if next == link {
			want++
		}
		if w.build.Level() != want {
			t.Errorf("deleted ahead of step %d: %s; Level was %d", at, w, level)
		}
		for l := 3; l >= want && l > 0; l-- {
			if slices.Contains(row(m, l), linked(2)) {
				t.Errorf("deleted ahead of step %d: %s: linked on level %d", at, w, l)
			}
		}
		wantUnlinked(t, w, m, linked(2), 20)
	}
}

// wantUnlinked lets another find go the way, behind which the deleted node is linked nowhere.
func wantUnlinked(t *testing.T, what any, m *mem.Mem, h, k uint64) {
	t.Helper()
	f, g := find.New(k), guard.New(1)
	for i := 0; i < stepsAlone && !f.Done(); i++ {
		f.Step(m, g)
	}
	for level := range m.Config().Height {
		if slices.Contains(row(m, level), h) {
			t.Fatalf("%v: deleted, and linked on level %d still", what, level)
		}
	}
}

// TestReplacedBetweenTwoSteps deletes the node and unlinks it, and links another one of its key on all levels, ahead of each step in turn.
func TestReplacedBetweenTwoSteps(t *testing.T) { // P13.1, P13.2
	for at := range 40 {
		m := worldOf(t, 3, node{10, 2, 0}, node{20, 1, 0}, node{30, 3, 0})
		w := watch(t, m, linked(2), 20, 3, 0)
		for range at {
			w.step(t, m)
		}
		deleteAll(m, linked(2), 2, 0)
		wantUnlinked(t, w, m, linked(2), 20)
		m.Store(spare(3), keyField, 20)
		for level := range 3 {
			pred := head
			if level < 2 {
				pred = linked(1)
			}
			m.Store(spare(3), nextField+level, names(m, pred, level))
			m.Store(pred, nextField+level, spare(3))
		}
		w.toEnd(t, m, stepsAlone)
		for level := range 3 {
			if slices.Contains(row(m, level), linked(2)) {
				t.Errorf("replaced ahead of step %d: %s: linked on level %d", at, w, level)
			}
		}
	}
}

// scripts calls with each row of that many numbers below each.
func scripts(length, each int, call func(script []int)) {
	script := make([]int, length)
	var fill func(i int)
	fill = func(i int) {
		if i == length {
			call(script)
			return
		}
		for n := range each {
			script[i] = n
			fill(i + 1)
		}
	}
	fill(0)
}

// neighbours has two nodes next to one another that are linked on level 0 alone.
func neighbours(t *testing.T, height int) *mem.Mem {
	t.Helper()
	return worldOf(t, height, node{10, height, 0}, node{20, 1, 0}, node{30, 1, 0})
}

// together links the neighbours, whose steps come as the script says, once each has come so far.
func together(t *testing.T, height int, begun []int, script []int) {
	t.Helper()
	m := neighbours(t, height)
	l := []*watched{watch(t, m, linked(2), 20, height, 0), watch(t, m, linked(3), 30, height, 1)}
	for i, n := range begun {
		for range n {
			l[i].step(t, m)
		}
	}
	for _, i := range script {
		l[i].step(t, m)
	}
	for _, w := range l {
		w.toEnd(t, m, stepsAlone)
		if w.build.Level() != height {
			t.Fatalf("%v: %s: Level %d", script, w, w.build.Level())
		}
	}
	for level := range height {
		wantRow(t, fmt.Sprintf("%v behind %v", script, begun), m, level, linked(1), linked(2), linked(3))
	}
}

func TestTwoNeighbours(t *testing.T) { // P13.1, P13.2
	for begun := 9; begun <= 15; begun++ {
		scripts(9, 2, func(script []int) { together(t, 2, []int{begun, begun}, script) })
	}
	for a := 0; a <= 24; a += 3 {
		for b := 0; b <= 24; b += 3 {
			scripts(6, 2, func(script []int) { together(t, 3, []int{a, b}, script) })
		}
	}
}

func TestTwoNeighboursInLongMixes(t *testing.T) { // P13.1, P13.2
	for seed := uint64(1); seed <= 600; seed++ {
		roll := rolls(seed * 0x9e3779b97f4a7c15)
		script := make([]int, int(roll()%90))
		for i := range script {
			script[i] = int(roll() % 2)
		}
		together(t, 2+int(seed%5), nil, script)
	}
}

// TestWithOneWhoDeletes mixes the build with a help of its node: what is deleted is not linked from there on, but where its word had been looked at already.
func TestWithOneWhoDeletes(t *testing.T) { // P13.1, P13.2
	for begun := 14; begun <= 22; begun++ {
		scripts(12, 2, func(script []int) {
			m := worldOf(t, 3, node{10, 2, 0}, node{20, 1, 0}, node{30, 3, 0})
			w, a := watch(t, m, linked(2), 20, 3, 0), help.New(linked(2))
			for range begun {
				w.step(t, m)
			}
			for _, i := range script {
				if i == 0 {
					w.step(t, m)
				} else {
					a.Step(m)
				}
			}
			for range 20 {
				a.Step(m)
			}
			w.toEnd(t, m, stepsAlone)
			for level := range 3 {
				if !marked(names(m, linked(2), level)) {
					t.Fatalf("%v: %s: the mark of level %d is lost", script, w, level)
				}
			}
			wantUnlinked(t, w, m, linked(2), 20)
		})
	}
}

// TestErasGoOn lets the clock tick ahead of each step in turn, so that the guard has to publish more than it has reservations.
func TestErasGoOn(t *testing.T) { // P13.1, P13.2
	for at := range 30 {
		for ticks := 1; ticks <= 5; ticks++ {
			m := worldOf(t, 3, node{10, 2, 0}, node{20, 1, 0}, node{30, 3, 0})
			w := watch(t, m, linked(2), 20, 3, 1)
			for range at {
				w.step(t, m)
			}
			for range ticks {
				m.Tick()
				w.step(t, m)
			}
			w.toEnd(t, m, stepsAlone)
			wantRow(t, w, m, 1, linked(1), linked(2), linked(3))
			wantRow(t, w, m, 2, linked(2), linked(3))
		}
	}
}

func TestGuardOfAThreadThatThereIsNot(t *testing.T) { // P13.1, R1
	for _, thread := range []int{math.MinInt, -1, 2, 8, 1 << 32, math.MaxInt} {
		m := worldOf(t, 3, node{10, 2, 0}, node{20, 1, 0}, node{30, 3, 0})
		words := m.Bank().Cells()
		w := watch(t, m, linked(2), 20, 3, thread)
		w.toEnd(t, m, stepsAlone)
		alone(m.Config(), words, linked(2), 20, 3)
		if !slices.Equal(m.Bank().Cells(), words) {
			t.Errorf("thread %d: leaves %v; want %v", thread, m.Bank().Cells(), words)
		}
	}
}

// TestSlotsThatThereAreNot can't set what they name: they are linked where nothing follows, and otherwise the build is never Done.
func TestSlotsThatThereAreNot(t *testing.T) { // P13.1, R1, R8
	for _, index := range []int{4, 64, 65, 1 << 31, 1<<32 - 1} {
		h := named(index, 5)
		m := worldOf(t, 2, node{10, 1, 0}, node{20, 1, 0})
		w := watch(t, m, h, 15, 2, 0)
		w.toEnd(t, m, stepsAlone)
		if names(m, head, 1) != h {
			t.Errorf("%s: the head names %#x", w, names(m, head, 1))
		}
		m = worldOf(t, 2, node{10, 1, 0}, node{20, 2, 0})
		words := m.Bank().Cells()
		words[reservation(m.Config(), 0, 0)] = 1
		w = watch(t, m, h, 15, 2, 0)
		for range 60 {
			w.step(t, m)
		}
		if w.next == over || m.Bank().Count() != 60 || !slices.Equal(m.Bank().Cells(), words) {
			t.Errorf("%s: %d accesses, leaves %v", w, m.Bank().Count(), m.Bank().Cells())
		}
	}
}

// TestHandleWithAMark is linked as it is given: who goes the way there takes the mark for a deleted pred.
func TestHandleWithAMark(t *testing.T) { // P13.1, R1, R8
	m := worldOf(t, 2, node{20, 1, 0})
	w := watch(t, m, linked(1)|mark, 20, 2, 0)
	w.toEnd(t, m, stepsAlone)
	if names(m, head, 1) != linked(1)|mark {
		t.Errorf("%s: the head names %#x", w, names(m, head, 1))
	}
	w = watch(t, m, linked(1)|mark, 20, 2, 0)
	for range 60 {
		w.step(t, m)
	}
	if w.next == over {
		t.Errorf("%s: a way past a mark of the head's", w)
	}
}

func TestTheHeadAndNone(t *testing.T) { // P13.1, R1, R8
	for _, h := range []uint64{0, head, mark, head | mark, 5, 1 << 32, greatestWord} {
		for _, tall := range []int{1, 2, 3} {
			for _, k := range []uint64{0, 15, 99} {
				m := worldOf(t, 3, node{10, 2, 0}, node{20, 3, 0})
				w := watch(t, m, h, k, tall, 0)
				for range 100 {
					w.step(t, m)
				}
			}
		}
	}
}

func TestBuildsKeepApart(t *testing.T) { // R6
	m, other := neighbours(t, 2), neighbours(t, 4)
	a, b := watch(t, m, linked(2), 20, 2, 0), watch(t, other, linked(3), 30, 3, 0)
	for a.next != over || b.next != over {
		a.step(t, m)
		b.step(t, other)
	}
	wantRow(t, a, m, 1, linked(1), linked(2))
	wantRow(t, b, other, 1, linked(1), linked(3))
	wantRow(t, b, other, 2, linked(1), linked(3))
	wantRow(t, b, other, 3, linked(1))
}

// rolls tells words that hang on nothing but those ahead of them.
func rolls(seed uint64) func() uint64 {
	return func() uint64 {
		seed ^= seed << 13
		seed ^= seed >> 7
		seed ^= seed << 17
		return seed
	}
}

// anyWords has words of all kinds: handles with and without the mark, small numbers, and any.
func anyWords(t *testing.T, roll func() uint64) *mem.Mem {
	t.Helper()
	c := api.Config{Threads: 1 + int(roll()%2), Slots: 1 + int(roll()%3), Cap: 1 + int(roll()%4), Height: 1 + int(roll()%6), Keep: 1, Every: 1, Last: 9}
	words := make([]uint64, 1+c.Threads*c.Slots+(c.Cap+1)*(6+c.Height))
	for i := range words {
		words[i] = anyWord(roll, c.Cap)
	}
	return worldWith(t, c, words)
}

func anyWord(roll func() uint64, most int) uint64 {
	switch roll() % 5 {
	case 0:
		return roll()
	case 1:
		return roll() % 8
	case 2:
		return named(int(roll()%uint64(most+2)), 1) | roll()&mark
	}
	return named(int(roll()%uint64(most+2)), 0)
}

func TestAnyWords(t *testing.T) { // P13.1, R1, R8
	ends := 0
	for seed := uint64(1); seed <= 800; seed++ {
		roll := rolls(seed * 0x9e3779b97f4a7c15)
		m := anyWords(t, roll)
		c := m.Config()
		w := watch(t, m, anyWord(roll, c.Cap), roll()>>(roll()%64), int(roll()%8), int(roll()%3))
		for i := 0; i < 150 && w.next != over; i++ {
			switch roll() % 16 {
			case 0:
				m.Tick()
			case 1:
				m.Store(named(int(roll()%uint64(c.Cap+1)), 0), int(roll()%uint64(6+c.Height)), anyWord(roll, c.Cap))
			}
			w.step(t, m)
		}
		if w.next == over && w.tall > 1 {
			ends++
		}
	}
	if ends == 0 {
		t.Error("no build was Done")
	}
}

func TestStepsOverWorldsThatChange(t *testing.T) { // R1, R8
	small, great := worldOf(t, 1, node{10, 1, 0}), worldOf(t, 6, node{10, 6, 0}, node{20, 1, 0}, node{30, 4, 0})
	for _, l := range [][]*mem.Mem{{small, great}, {great, small}, {great, great, great, small}} {
		for _, h := range []uint64{linked(1), linked(2), named(9, 0), 0} {
			b, g := build.New(h, 20, 6), guard.New(0)
			for i := range 200 {
				m := l[i%len(l)]
				done, count := b.Done(), m.Bank().Count()
				b.Step(m, g)
				if n := m.Bank().Count() - count; n > 1 || n == 0 != done {
					t.Fatalf("build of %#x: %d accesses, Done %v", h, n, done)
				}
			}
		}
	}
}
