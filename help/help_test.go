package help_test

import (
	"fmt"
	"math"
	"slices"
	"testing"

	"stepstone/api"
	"stepstone/bank"
	"stepstone/help"
	"stepstone/mem"
)

const (
	greatestWord = uint64(math.MaxUint64)
	mark         = uint64(1) << 62
	head         = uint64(1) << 63 // index 0, generation 0
)

// The fields, as chapter 4 counts them; next is that of level 0.
const (
	tallField = 4
	nextField = 6
)

// Handles and cells are worked out by the words of chapters 1 and 4, so that they don't err along with the packages.

func named(index, gen int) uint64 { return 1<<63 | uint64(gen)<<32 | uint64(index) }

func marked(w uint64) bool { return w>>62&1 == 1 }

// cellOf tells the cell of a field of the slot of h's index, -1 if there is none.
func cellOf(c api.Config, h uint64, field int) int {
	index := int(uint32(h))
	if index > c.Cap || field >= 6+c.Height {
		return -1
	}
	return 1 + c.Threads*c.Slots + index*(6+c.Height) + field
}

// helped is the node that the tests delete; it is in slot 2 of 4.
var helped = named(2, 3)

func config(height int) api.Config {
	return api.Config{Threads: 2, Slots: 2, Cap: 4, Height: height, Keep: 1, Every: 1, Last: 9}
}

// follows tells what the node names on the level: another node on each, and none on the third.
func follows(level int) uint64 {
	if level == 2 {
		return 0
	}
	return named(3+level%2, level)
}

// worldOf has the node, with that word as Tall, deleted on the levels that the bits say, from level 0 on. All cells that are none of its Next have words that differ, so that a change is seen.
func worldOf(t *testing.T, height int, tall uint64, deleted int) *mem.Mem {
	t.Helper()
	c := config(height)
	cells := make([]uint64, cellOf(c, named(c.Cap, 0), 5+height)+1)
	for i := range cells {
		cells[i] = uint64(1000 + i)
	}
	cells[cellOf(c, helped, tallField)] = tall
	for level := range height {
		cells[cellOf(c, helped, nextField+level)] = withMark(follows(level), deleted>>level&1 == 1)
	}
	return worldWith(t, c, cells)
}

func withMark(w uint64, on bool) uint64 {
	if on {
		return w | mark
	}
	return w
}

func worldWith(t *testing.T, c api.Config, cells []uint64) *mem.Mem {
	t.Helper()
	m, e := mem.Of(c, cells)
	if e != api.OK {
		t.Fatalf("Of(%+v): error %d", c, e)
	}
	return m
}

// has tells what a field has without an access.
func has(m *mem.Mem, h uint64, field int) uint64 {
	cell := cellOf(m.Config(), h, field)
	if cell < 0 {
		return 0
	}
	return m.Bank().Cells()[cell]
}

func loading(m *mem.Mem, h uint64, field int) bank.Access {
	w := has(m, h, field)
	cell := cellOf(m.Config(), h, field)
	return bank.Access{Kind: bank.Loads, Cell: cell, Via: h &^ mark, Old: w, New: w, Done: cell >= 0}
}

func swapping(m *mem.Mem, h uint64, field int, old, v uint64) bank.Access {
	a := loading(m, h, field)
	a.Kind, a.Done = bank.Swaps, a.Cell >= 0 && a.Old == old
	if a.Done {
		a.New = v
	}
	return a
}

// wantAccess does something that is to be just that one access of the world.
func wantAccess(t *testing.T, what any, m *mem.Mem, want bank.Access, do func()) {
	t.Helper()
	had, count := m.Bank().Cells(), m.Bank().Count()
	do()
	if n := m.Bank().Count() - count; n != 1 {
		t.Fatalf("%v: %d accesses; want 1", what, n)
	}
	if a := m.Bank().Last(); a != want {
		t.Fatalf("%v: the access %+v; want %+v", what, a, want)
	}
	if want.Cell >= 0 {
		had[want.Cell] = want.New
	}
	if cells := m.Bank().Cells(); !slices.Equal(cells, had) {
		t.Fatalf("%v: cells %v; want %v", what, cells, had)
	}
}

// What comes next, by the words of the chapter.
const (
	tall   = "tall"
	next   = "next"
	toMark = "mark"
	over   = "over"
)

// watched is a help, and what it should do by the words of the chapter.
type watched struct {
	help  *help.Help
	h     uint64
	next  string
	level int
	s     uint64
	trace []string
}

func watch(t *testing.T, m *mem.Mem, h uint64) *watched {
	t.Helper()
	w := &watched{help: help.New(h), h: h, next: tall}
	w.wantTold(t, m)
	return w
}

func (w *watched) String() string {
	return fmt.Sprintf("help of %#x, %s of level %d, behind %v", w.h, w.next, w.level, w.trace)
}

// wants tells the access that the next Step is to be.
func (w *watched) wants(m *mem.Mem) bank.Access {
	switch w.next {
	case tall:
		return loading(m, w.h, tallField)
	case next:
		return loading(m, w.h, nextField+w.level)
	}
	return swapping(m, w.h, nextField+w.level, w.s, w.s|mark)
}

// highest tells the level at which a help of a node of that Tall begins.
func highest(tall uint64, height int) int {
	switch {
	case tall == 0:
		return 0
	case tall > uint64(height):
		return height - 1
	}
	return int(tall) - 1
}

// goesOn takes down what came of the access.
func (w *watched) goesOn(m *mem.Mem, a bank.Access) {
	w.trace = append(w.trace, w.next)
	switch {
	case w.next == tall:
		w.level, w.next = highest(a.Old, m.Config().Height), next
	case w.next == next && !marked(a.Old):
		w.s, w.next = a.Old, toMark
	case w.next == toMark && !a.Done:
		w.next = next
	case w.level == 0:
		w.next = over
	default:
		w.level, w.next = w.level-1, next
	}
}

func (w *watched) step(t *testing.T, m *mem.Mem) {
	t.Helper()
	if w.next == over {
		w.wantIdle(t, m)
		return
	}
	a := w.wants(m)
	wantAccess(t, w, m, a, func() { w.help.Step(m) })
	w.goesOn(m, a)
	w.wantTold(t, m)
}

// wantTold holds what the help tells against what it should, and that telling is no access.
func (w *watched) wantTold(t *testing.T, m *mem.Mem) {
	t.Helper()
	count := m.Bank().Count()
	if done := w.next == over; w.help.Done() != done {
		t.Fatalf("%s: Done %v", w, w.help.Done())
	}
	if m.Bank().Count() != count {
		t.Fatalf("%s: what is told was an access", w)
	}
}

func (w *watched) wantIdle(t *testing.T, m *mem.Mem) {
	t.Helper()
	had, count := m.Bank().Cells(), m.Bank().Count()
	for range 3 {
		w.help.Step(m)
	}
	if m.Bank().Count() != count || !slices.Equal(m.Bank().Cells(), had) {
		t.Fatalf("%s: a Step behind the end did something", w)
	}
	w.wantTold(t, m)
}

// toEnd steps to the end, which is to come within that many steps, and tells how many they were.
func (w *watched) toEnd(t *testing.T, m *mem.Mem, most int) int {
	t.Helper()
	steps := 0
	for w.next != over {
		if steps == most {
			t.Fatalf("%s: no end in %d steps", w, most)
		}
		w.step(t, m)
		steps++
	}
	w.wantIdle(t, m)
	return steps
}

func (w *watched) wantTrace(t *testing.T, want ...string) {
	t.Helper()
	if !slices.Equal(w.trace, want) {
		t.Errorf("%s: want the steps %v", w, want)
	}
}

// stepsAlone is the most that a help alone takes of a node that is to be deleted on that many levels.
func stepsAlone(levels int) int { return 2*levels + 1 }

// wantDeleted tells that the node has the mark on the levels up to top, names on all what it named, and that nothing else is other than it was.
func wantDeleted(t *testing.T, what any, m *mem.Mem, words []uint64, top int) {
	t.Helper()
	want := slices.Clone(words)
	for level := range top + 1 {
		want[cellOf(m.Config(), helped, nextField+level)] |= mark
	}
	if cells := m.Bank().Cells(); !slices.Equal(cells, want) {
		t.Fatalf("%v: leaves %v; want %v", what, cells, want)
	}
}

// wantFromAbove tells that no level up to top is deleted that is below one that is not.
func wantFromAbove(t *testing.T, what any, m *mem.Mem, top int) {
	t.Helper()
	deleted := true
	for level := top; level >= 0; level-- {
		w := has(m, helped, nextField+level)
		if marked(w) && !deleted {
			t.Fatalf("%v: deleted on level %d, and not on the one above it", what, level)
		}
		deleted = marked(w)
		if w&^mark != follows(level) {
			t.Fatalf("%v: level %d names %#x; want %#x", what, level, w&^mark, follows(level))
		}
	}
}

func TestExamples(t *testing.T) { // P12.1, P12.2
	for _, x := range []struct{ deleted, steps int }{{0, 5}, {3, 3}} {
		m := worldOf(t, 2, 2, x.deleted)
		words := m.Bank().Cells()
		a := help.New(helped)
		steps := 0
		for !a.Done() && steps < 20 {
			a.Step(m)
			steps++
		}
		if steps != x.steps || m.Bank().Count() != x.steps {
			t.Errorf("two levels, deleted %b: %d steps, %d accesses; want %d", x.deleted, steps, m.Bank().Count(), x.steps)
		}
		wantDeleted(t, "an example", m, words, 1)
	}
}

// TestEachStep writes each access of a help down, by no model.
func TestEachStep(t *testing.T) { // P12.1
	m := worldOf(t, 4, 3, 2)
	a := help.New(helped)
	third, second, first := follows(2), follows(1)|mark, follows(0)
	cell := 1 + 2*2 + 2*(6+4) // the first field of slot 2
	for i, want := range []bank.Access{
		{Kind: bank.Loads, Cell: cell + 4, Via: helped, Old: 3, New: 3, Done: true},
		{Kind: bank.Loads, Cell: cell + 8, Via: helped, Old: third, New: third, Done: true},
		{Kind: bank.Swaps, Cell: cell + 8, Via: helped, Old: third, New: third | mark, Done: true},
		{Kind: bank.Loads, Cell: cell + 7, Via: helped, Old: second, New: second, Done: true},
		{Kind: bank.Loads, Cell: cell + 6, Via: helped, Old: first, New: first, Done: true},
		{Kind: bank.Swaps, Cell: cell + 6, Via: helped, Old: first, New: first | mark, Done: true},
	} {
		if a.Done() {
			t.Fatalf("step %d: Done", i)
		}
		wantAccess(t, fmt.Sprintf("step %d", i), m, want, func() { a.Step(m) })
	}
	if !a.Done() {
		t.Error("not Done behind level 0")
	}
}

// talls are the words that Tall may have: as in a world, at the edges, and beyond them.
func talls(height int) []uint64 {
	l := []uint64{7, 8, 64, 1 << 31, 1 << 32, 1<<32 | 1, 1<<62 | 1, 1<<63 - 1, 1 << 63, 1<<63 | 1, greatestWord - 1, greatestWord}
	for n := range height + 2 {
		l = append(l, uint64(n))
	}
	return l
}

func TestTall(t *testing.T) { // P12.1, P12.2
	for height := 1; height <= 6; height++ {
		for _, n := range talls(height) {
			m := worldOf(t, height, n, 0)
			words, top := m.Bank().Cells(), highest(n, height)
			w := watch(t, m, helped)
			w.step(t, m)
			wantAccess(t, w, m, loading(m, helped, nextField+top), func() { w.help.Step(m) })
			w.goesOn(m, m.Bank().Last())
			w.toEnd(t, m, stepsAlone(top+1))
			wantDeleted(t, fmt.Sprintf("Height %d, Tall %d", height, n), m, words, top)
		}
	}
}

func TestAloneOverAllNodes(t *testing.T) { // P12.1, P12.2
	for height := 1; height <= 6; height++ {
		for tall := 1; tall <= height; tall++ {
			for deleted := range 1 << height {
				m := worldOf(t, height, uint64(tall), deleted)
				words := m.Bank().Cells()
				left := 0
				for level := range tall {
					left += 1 - deleted>>level&1
				}
				w := watch(t, m, helped)
				if steps := w.toEnd(t, m, stepsAlone(tall)); steps != 1+tall+left || m.Bank().Count() != steps {
					t.Fatalf("%s: %d levels, deleted %b: %d steps, %d accesses", w, tall, deleted, steps, m.Bank().Count())
				}
				wantDeleted(t, w, m, words, tall-1)
			}
		}
	}
}

func TestTraces(t *testing.T) { // P12.1
	for _, x := range []struct {
		tall    uint64
		deleted int
		want    []string
	}{
		{1, 0, []string{tall, next, toMark}},
		{1, 1, []string{tall, next}},
		{3, 0, []string{tall, next, toMark, next, toMark, next, toMark}},
		{3, 4, []string{tall, next, next, toMark, next, toMark}},
		{3, 6, []string{tall, next, next, next, toMark}},
		{3, 7, []string{tall, next, next, next}},
		{3, 1, []string{tall, next, toMark, next, toMark, next}},
	} {
		m := worldOf(t, 3, x.tall, x.deleted)
		w := watch(t, m, helped)
		w.toEnd(t, m, stepsAlone(3))
		w.wantTrace(t, x.want...)
	}
}

func TestFromTheHighestLevelDown(t *testing.T) { // P12.2
	for tall := 1; tall <= 6; tall++ {
		for from := 0; from <= tall; from++ {
			m := worldOf(t, 6, uint64(tall), 1<<tall-1<<from)
			w := watch(t, m, helped)
			for w.next != over {
				w.step(t, m)
				wantFromAbove(t, w, m, tall-1)
			}
		}
	}
}

func TestAgain(t *testing.T) { // P12.1, P12.2
	m := worldOf(t, 3, 3, 0)
	watch(t, m, helped).toEnd(t, m, stepsAlone(3))
	words := m.Bank().Cells()
	w := watch(t, m, helped)
	w.toEnd(t, m, stepsAlone(3))
	w.wantTrace(t, tall, next, next, next)
	if !slices.Equal(m.Bank().Cells(), words) {
		t.Errorf("another help of a deleted node leaves %v; want %v", m.Bank().Cells(), words)
	}
}

// TestASwapThatIsLost changes the word behind the look at it.
func TestASwapThatIsLost(t *testing.T) { // P12.1
	for level := range 3 {
		for _, word := range []uint64{0, 1, named(1, 0), named(3, 9), helped, head, follows(level) ^ 1<<33, 1<<62 - 1, greatestWord &^ mark} {
			if word == follows(level) {
				continue
			}
			m := worldOf(t, 3, 3, 0)
			w := watch(t, m, helped)
			for w.next != toMark || w.level != level {
				w.step(t, m)
			}
			m.Store(helped, nextField+level, word)
			w.step(t, m)
			if w.next != next || w.level != level || has(m, helped, nextField+level) != word {
				t.Fatalf("%s: %#x has come to %#x", w, word, has(m, helped, nextField+level))
			}
			wantAccess(t, w, m, loading(m, helped, nextField+level), func() { w.help.Step(m) })
			w.goesOn(m, m.Bank().Last())
			wantAccess(t, w, m, swapping(m, helped, nextField+level, word, word|mark), func() { w.help.Step(m) })
			w.goesOn(m, m.Bank().Last())
			w.toEnd(t, m, stepsAlone(3))
			if has(m, helped, nextField+level) != word|mark {
				t.Errorf("%s: the word %#x; want %#x with the mark", w, has(m, helped, nextField+level), word)
			}
		}
	}
}

func TestAMarkFromSomebodyElse(t *testing.T) { // P12.1
	for level := range 3 {
		for _, word := range []uint64{follows(level) | mark, named(1, 4) | mark, mark, greatestWord} {
			m := worldOf(t, 3, 3, 0)
			w := watch(t, m, helped)
			for w.next != toMark || w.level != level {
				w.step(t, m)
			}
			steps := len(w.trace)
			m.Store(helped, nextField+level, word)
			w.toEnd(t, m, stepsAlone(3))
			if w.trace[steps] != toMark || w.trace[steps+1] != next || len(w.trace) != 8 {
				t.Errorf("%s: lost to another's mark", w)
			}
			if has(m, helped, nextField+level) != word {
				t.Errorf("%s: level %d has %#x; want %#x", w, level, has(m, helped, nextField+level), word)
			}
		}
	}
}

// TestAWordThatComesBack is changed and changed back behind the look at it: the swap can't tell.
func TestAWordThatComesBack(t *testing.T) { // P12.1
	m := worldOf(t, 1, 1, 0)
	w := watch(t, m, helped)
	w.step(t, m)
	w.step(t, m)
	m.Store(helped, nextField, follows(0)|mark)
	m.Store(helped, nextField, follows(0))
	w.step(t, m)
	w.wantTrace(t, tall, next, toMark)
	if !w.help.Done() {
		t.Errorf("%s: not Done", w)
	}
}

func TestALevelThatIsDoneIsNotLookedAtAgain(t *testing.T) { // P12.1
	m := worldOf(t, 2, 2, 0)
	w := watch(t, m, helped)
	for w.level != 0 || w.next != toMark {
		w.step(t, m)
	}
	m.Store(helped, nextField+1, follows(1))
	m.Store(helped, nextField, 0)
	w.toEnd(t, m, 3)
	w.wantTrace(t, tall, next, toMark, next, toMark, next, toMark)
	if has(m, helped, nextField+1) != follows(1) {
		t.Errorf("level 1 has %#x", has(m, helped, nextField+1))
	}
}

func TestATallThatIsChangedLater(t *testing.T) { // P12.1
	for _, later := range []uint64{0, 1, 3, greatestWord} {
		m := worldOf(t, 3, 2, 0)
		w := watch(t, m, helped)
		w.step(t, m)
		m.Store(helped, tallField, later)
		words := m.Bank().Cells()
		w.toEnd(t, m, stepsAlone(2))
		w.wantTrace(t, tall, next, toMark, next, toMark)
		wantDeleted(t, w, m, words, 1)
	}
}

// together has several that help one node, whose steps come as the script says, and then one behind the other.
func together(t *testing.T, height, tall, deleted int, each int, script []int) {
	t.Helper()
	m := worldOf(t, height, uint64(tall), deleted)
	words := m.Bank().Cells()
	var l []*watched
	for range each {
		l = append(l, watch(t, m, helped))
	}
	for _, i := range script {
		l[i].step(t, m)
		wantFromAbove(t, script, m, tall-1)
	}
	for _, w := range l {
		w.toEnd(t, m, 3*tall+1)
		wantFromAbove(t, script, m, tall-1)
		if len(w.trace) > 3*tall+1 { // of a level a swap can be lost once: then the mark is there
			t.Fatalf("%v: %s: %d steps", script, w, len(w.trace))
		}
	}
	wantDeleted(t, script, m, words, tall-1)
}

// scripts calls with each row of that many numbers below each.
func scripts(length, each int, call func(script []int)) {
	script := make([]int, length)
	var fill func(i int)
	fill = func(i int) {
		if i == length {
			call(script)
			return
		}
		for n := range each {
			script[i] = n
			fill(i + 1)
		}
	}
	fill(0)
}

func TestTwoAtOnce(t *testing.T) { // P12.1, P12.2
	for _, deleted := range []int{0, 2, 3} {
		scripts(11, 2, func(script []int) { together(t, 3, 2, deleted, 2, script) })
	}
	scripts(12, 2, func(script []int) { together(t, 3, 3, 0, 2, script) })
}

func TestThreeAtOnce(t *testing.T) { // P12.1, P12.2
	scripts(8, 3, func(script []int) { together(t, 1, 1, 0, 3, script) })
	scripts(9, 3, func(script []int) { together(t, 2, 2, 0, 3, script) })
}

func TestManyAtOnce(t *testing.T) { // P12.2
	for seed := uint64(1); seed <= 300; seed++ {
		roll := rolls(seed * 0x9e3779b97f4a7c15)
		each := 2 + int(roll()%7)
		script := make([]int, int(roll()%100))
		for i := range script {
			script[i] = int(roll() % uint64(each))
		}
		tall := 1 + int(roll()%6)
		from := int(roll() % uint64(tall+1))
		together(t, 6, tall, 1<<tall-1<<from, each, script)
	}
}

// TestOthersLinkMeanwhile lets others write another name, as long as the level has no mark, ahead of each Step.
func TestOthersLinkMeanwhile(t *testing.T) { // P12.1, P12.2
	scripts(14, 2, func(script []int) {
		m := worldOf(t, 2, 2, 0)
		w := watch(t, m, helped)
		last := []uint64{follows(0), follows(1)}
		for i, links := range script {
			if links == 1 {
				for level := range last {
					if old := has(m, helped, nextField+level); !marked(old) {
						last[level] = named(1, i)
						m.Swap(helped, nextField+level, old, last[level])
					}
				}
			}
			w.step(t, m)
		}
		w.toEnd(t, m, stepsAlone(2))
		for level, x := range last {
			if has(m, helped, nextField+level) != x|mark {
				t.Fatalf("%v: %s: level %d has %#x; want %#x with the mark", script, w, level, has(m, helped, nextField+level), x)
			}
		}
	})
}

func TestAWordThatNeverStands(t *testing.T) { // P12.1, R1
	m := worldOf(t, 1, 1, 0)
	w := watch(t, m, helped)
	for i := range 300 {
		m.Store(helped, nextField, named(1, i))
		w.step(t, m)
	}
	if w.next == over {
		t.Errorf("%s: deleted", w)
	}
	w.toEnd(t, m, 3)
}

func TestHandleWithAMark(t *testing.T) { // P12.1, R1
	m := worldOf(t, 3, 2, 0)
	words := m.Bank().Cells()
	w := watch(t, m, helped|mark)
	if steps := w.toEnd(t, m, 5); steps != 5 || m.Bank().Last().Via != helped {
		t.Errorf("%s: %d steps, via %#x", w, steps, m.Bank().Last().Via)
	}
	wantDeleted(t, w, m, words, 1)
}

// TestAnyHandleOfTheSlot asks nothing of the handle but the index: whether it is of the slot's generation is for those above.
func TestAnyHandleOfTheSlot(t *testing.T) { // P12.1, R1
	for _, h := range []uint64{2, named(2, 0), named(2, 9), named(2, api.MaxLast), 1<<40 | 2, mark | 2} {
		m := worldOf(t, 2, 2, 0)
		words := m.Bank().Cells()
		w := watch(t, m, h)
		w.toEnd(t, m, 5)
		wantDeleted(t, w, m, words, 1)
	}
}

func TestTheHeadAndNone(t *testing.T) { // P12.1, R1
	for _, h := range []uint64{head, head | mark, 0, mark, 1 << 32} {
		m, e := mem.New(config(3))
		if e != api.OK {
			t.Fatal(e)
		}
		m.Store(head, nextField+1, named(1, 0))
		words := m.Bank().Cells()
		w := watch(t, m, h)
		if steps := w.toEnd(t, m, 7); steps != 7 {
			t.Errorf("%s: %d steps; want 7, since the head has all levels", w, steps)
		}
		for level := range 3 {
			words[cellOf(m.Config(), head, nextField+level)] |= mark
		}
		if !slices.Equal(m.Bank().Cells(), words) {
			t.Errorf("%s: leaves %v; want %v", w, m.Bank().Cells(), words)
		}
	}
}

// TestSlotsThatThereAreNot can't be Done: a swap of no cell is always lost.
func TestSlotsThatThereAreNot(t *testing.T) { // P12.1, R1, R8
	for _, index := range []int{5, 64, 65, 1 << 31, 1<<32 - 1} {
		for _, h := range []uint64{named(index, 0), named(index, 5) | mark, uint64(index)} {
			m := worldOf(t, 2, 2, 0)
			words := m.Bank().Cells()
			w := watch(t, m, h)
			for range 60 {
				w.step(t, m)
			}
			if w.next == over || w.level != 0 || m.Bank().Count() != 60 || !slices.Equal(m.Bank().Cells(), words) {
				t.Errorf("%s: %d accesses, leaves %v", w, m.Bank().Count(), m.Bank().Cells())
			}
		}
	}
}

func TestHelpsKeepApart(t *testing.T) { // R6
	m, other := worldOf(t, 2, 2, 0), worldOf(t, 6, 5, 0)
	a, b, c := watch(t, m, helped), watch(t, other, helped), watch(t, m, named(4, 1))
	m.Store(named(4, 1), tallField, 2)
	for a.next != over || b.next != over || c.next != over {
		a.step(t, m)
		b.step(t, other)
		c.step(t, m)
	}
	a.wantTrace(t, tall, next, toMark, next, toMark)
	if len(b.trace) != 11 || len(c.trace) != 5 {
		t.Errorf("%d and %d steps; want 11 and 5", len(b.trace), len(c.trace))
	}
}

// rolls tells words that hang on nothing but those ahead of them.
func rolls(seed uint64) func() uint64 {
	return func() uint64 {
		seed ^= seed << 13
		seed ^= seed >> 7
		seed ^= seed << 17
		return seed
	}
}

func TestAnyWords(t *testing.T) { // P12.1, R1, R8
	for seed := uint64(1); seed <= 600; seed++ {
		roll := rolls(seed * 0x9e3779b97f4a7c15)
		c := api.Config{Threads: 1 + int(roll()%2), Slots: 1 + int(roll()%3), Cap: 1 + int(roll()%4), Height: 1 + int(roll()%6), Keep: 1, Every: 1, Last: 9}
		words := make([]uint64, 1+c.Threads*c.Slots+(c.Cap+1)*(6+c.Height))
		for i := range words {
			words[i] = roll() >> (roll() % 64)
		}
		m := worldWith(t, c, words)
		h := roll()&^0xffffffff | roll()%uint64(c.Cap+2)
		a, b := watch(t, m, h), watch(t, m, h)
		for i := 0; i < 100 && (a.next != over || b.next != over); i++ {
			switch roll() % 8 {
			case 0:
				m.Store(h, 6+int(roll()%uint64(c.Height)), roll()>>(roll()%64))
			case 1, 2, 3:
				a.step(t, m)
			default:
				b.step(t, m)
			}
		}
	}
}

func TestStepsOverWorldsThatChange(t *testing.T) { // R1, R8
	small, great := worldOf(t, 1, 1, 0), worldOf(t, 6, 6, 0)
	for _, l := range [][]*mem.Mem{{small, great}, {great, small}, {great, great, great, small}} {
		for _, h := range []uint64{helped, named(3, 0), named(9, 0), 0} {
			a := help.New(h)
			for i := range 100 {
				m := l[i%len(l)]
				done, count := a.Done(), m.Bank().Count()
				a.Step(m)
				if n := m.Bank().Count() - count; n > 1 || n == 0 != done {
					t.Fatalf("help of %#x: %d accesses, Done %v", h, n, done)
				}
			}
		}
	}
}
