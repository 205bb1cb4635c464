package claim_test

import (
	"fmt"
	"math"
	"slices"
	"testing"

	"stepstone/api"
	"stepstone/bank"
	"stepstone/claim"
	"stepstone/mem"
)

// The states, as chapter 2 counts them; 3 is none.
const (
	free = iota
	taken
	out
	noState
)

const maxLast = 1<<30 - 1

// Words, handles and cells are worked out by the words of chapters 1, 2 and 4, so that they don't err along with the packages.

func word(state, gen int) uint64 { return uint64(gen)<<2 | uint64(state) }

func named(index, gen int) uint64 { return 1<<63 | uint64(gen)<<32 | uint64(index) }

func metaCell(c api.Config, index int) int {
	return 1 + c.Threads*c.Slots + index*(6+c.Height)
}

func config(most, last int) api.Config {
	return api.Config{Threads: 2, Slots: 3, Cap: most, Height: 2, Keep: 1, Every: 1, Last: last}
}

// worldOf has as many slots for nodes as there are words, the first of which is slot 1's.
func worldOf(t *testing.T, last int, words ...uint64) *mem.Mem {
	t.Helper()
	c := config(len(words), last)
	m, e := mem.New(c)
	if e != api.OK {
		t.Fatalf("New(%+v): error %d", c, e)
	}
	cells := m.Bank().Cells()
	for i, w := range words {
		cells[metaCell(c, i+1)] = w
	}
	m, e = mem.Of(c, cells)
	if e != api.OK {
		t.Fatalf("Of(%+v): error %d", c, e)
	}
	return m
}

// has tells the word of the slot without an access.
func has(m *mem.Mem, index int) uint64 {
	return m.Bank().Cells()[metaCell(m.Config(), index)]
}

func load(m *mem.Mem, index int) bank.Access {
	w := has(m, index)
	return bank.Access{Kind: bank.Loads, Cell: metaCell(m.Config(), index), Old: w, New: w, Done: true}
}

// swap is the access of a take, from the word that was looked at.
func swap(m *mem.Mem, index int, looked uint64) bank.Access {
	w := has(m, index)
	a := bank.Access{Kind: bank.Swaps, Cell: metaCell(m.Config(), index), Old: w, New: w}
	if w == looked {
		a.New, a.Done = word(taken, int(min(looked>>2, maxLast))), true
	}
	return a
}

// wantAccess does something that is to be just that one access of the world.
func wantAccess(t *testing.T, what string, m *mem.Mem, want bank.Access, do func()) {
	t.Helper()
	had, count := m.Bank().Cells(), m.Bank().Count()
	do()
	if g := m.Bank().Count() - count; g != 1 {
		t.Fatalf("%s: %d accesses; want 1", what, g)
	}
	if g := m.Bank().Last(); g != want {
		t.Fatalf("%s: the access %+v; want %+v", what, g, want)
	}
	if want.Cell >= 0 {
		had[want.Cell] = want.New
	}
	if g := m.Bank().Cells(); !slices.Equal(g, had) {
		t.Fatalf("%s: cells %v; want %v", what, g, had)
	}
}

// wantTold holds all that a claim tells against what it should, and that telling is no access.
func wantTold(t *testing.T, what string, m *mem.Mem, c *claim.Claim, done bool, got uint64, next int) {
	t.Helper()
	count := m.Bank().Count()
	if c.Done() != done || c.Got() != got || c.Next() != next {
		t.Fatalf("%s: Done %v, Got %#x, Next %d; want %v, %#x, %d", what, c.Done(), c.Got(), c.Next(), done, got, next)
	}
	if m.Bank().Count() != count {
		t.Fatalf("%s: what is told was an access", what)
	}
}

func wantIdle(t *testing.T, what string, m *mem.Mem, c *claim.Claim) {
	t.Helper()
	had, count, got, next := m.Bank().Cells(), m.Bank().Count(), c.Got(), c.Next()
	for range 3 {
		c.Step(m)
	}
	if m.Bank().Count() != count || !slices.Equal(m.Bank().Cells(), had) {
		t.Fatalf("%s: a Step behind the end did something", what)
	}
	wantTold(t, what+", behind the end", m, c, true, got, next)
}

// route tells the slots in the order in which a claim is to look at them.
func route(from, most int) []int {
	var all []int
	for i := 1; i <= most; i++ {
		all = append(all, i)
	}
	if from < 1 || from > most {
		return all
	}
	return append(slices.Clone(all[from-1:]), all[:from-1]...)
}

func slotBehind(index, most int) int {
	if index == most {
		return 1
	}
	return index + 1
}

// wantRun steps a claim to its end, each Step held against the chapter; disturb is called between the look at a free slot and the take. It tells what is got, and how many steps that took.
func wantRun(t *testing.T, m *mem.Mem, from int, disturb func(index int)) (uint64, int) {
	t.Helper()
	c, steps, most := claim.New(from), 0, m.Config().Cap
	wantTold(t, "ahead of the first Step", m, c, false, 0, from)
	for i, index := range route(from, most) {
		what := fmt.Sprintf("Cap %d, from %d, slot %d", most, from, index)
		looked, last := has(m, index), i == most-1
		wantAccess(t, what+", look", m, load(m, index), func() { c.Step(m) })
		steps++
		if looked&3 != free {
			wantTold(t, what+", passed by", m, c, last, 0, from)
			continue
		}
		wantTold(t, what+", looked at", m, c, false, 0, from)
		disturb(index)
		take := swap(m, index, looked)
		wantAccess(t, what+", take", m, take, func() { c.Step(m) })
		steps++
		if take.Done {
			h := named(index, int(min(looked>>2, maxLast)))
			wantTold(t, what+", taken", m, c, true, h, slotBehind(index, most))
			wantIdle(t, what, m, c)
			return h, steps
		}
		wantTold(t, what+", lost", m, c, last, 0, from)
	}
	wantIdle(t, "none got", m, c)
	return 0, steps
}

func alone(int) {}

// froms has each slot of a world of that many, and what is none of its slots.
func froms(most int) []int {
	l := []int{math.MinInt, math.MinInt + 1, -1 << 32, -most, -1, 0, most + 1, most + 2, 2 * most, 65, 1 << 32, 1<<32 + 1, math.MaxInt - 1, math.MaxInt}
	return append(l, route(1, most)...)
}

// rows calls with each row of n of these words.
func rows(words []uint64, n int, call func(row []uint64)) {
	row := make([]uint64, n)
	var fill func(i int)
	fill = func(i int) {
		if i == n {
			call(row)
			return
		}
		for _, w := range words {
			row[i] = w
			fill(i + 1)
		}
	}
	fill(0)
}

func TestExamples(t *testing.T) { // P9.1, P9.2
	for _, x := range []struct {
		meta  uint64
		steps int
		got   uint64
	}{
		{12, 2, 9223372049739677697}, // free, of generation 3
		{13, 1, 0},                   // taken
	} {
		m := worldOf(t, 9, x.meta)
		c, steps := claim.New(1), 0
		for !c.Done() && steps < 9 {
			c.Step(m)
			steps++
		}
		if steps != x.steps || c.Got() != x.got || m.Bank().Count() != x.steps {
			t.Errorf("a slot of the word %d: %d steps, %d accesses, got %d; want %d, and %d", x.meta, steps, m.Bank().Count(), c.Got(), x.steps, x.got)
		}
	}
}

func TestEachStepOfSmallWorlds(t *testing.T) { // P9.1, P9.2, P9.3
	words := []uint64{word(free, 0), word(free, 2), word(taken, 1), word(out, 9), word(noState, 3)}
	for most := 1; most <= 4; most++ {
		for _, from := range froms(most) {
			rows(words, most, func(row []uint64) {
				m := worldOf(t, 9, row...)
				got, steps := wantRun(t, m, from, alone)
				anyFree := slices.ContainsFunc(row, func(w uint64) bool { return w&3 == free })
				if (got != 0) != anyFree {
					t.Fatalf("%v from %d: got %#x", row, from, got)
				}
				if steps > most+1 {
					t.Fatalf("%v from %d: %d steps", row, from, steps)
				}
			})
		}
	}
}

func TestTheOneFreeSlotOfAWorld(t *testing.T) { // P9.1, P9.2, P9.3
	for _, most := range []int{1, 2, 3, 7, 64} {
		for _, from := range froms(most) {
			for place, index := range route(from, most) {
				words := slices.Repeat([]uint64{word(taken, 5)}, most)
				words[index-1] = word(free, 5)
				m := worldOf(t, 9, words...)
				got, steps := wantRun(t, m, from, alone)
				if got != named(index, 5) || steps != place+2 {
					t.Fatalf("Cap %d, from %d, slot %d is free: got %#x in %d steps", most, from, index, got, steps)
				}
				if has(m, index) != word(taken, 5) {
					t.Fatalf("Cap %d: slot %d has %#x", most, index, has(m, index))
				}
			}
		}
	}
}

func TestNoSlotIsFree(t *testing.T) { // P9.1, P9.2, P9.3
	for _, most := range []int{1, 2, 5, 64} {
		for _, state := range []int{taken, out, noState} {
			for _, from := range froms(most) {
				m := worldOf(t, 3, slices.Repeat([]uint64{word(state, 3)}, most)...)
				if got, steps := wantRun(t, m, from, alone); got != 0 || steps != most {
					t.Errorf("Cap %d, from %d, state %d: got %#x in %d steps", most, from, state, got, steps)
				}
			}
		}
	}
}

func TestTheHeadsSlotIsNeverGot(t *testing.T) { // P9.1
	m := worldOf(t, 9, word(taken, 0), word(out, 9))
	m.Release(0, word(free, 0))
	for _, from := range froms(2) {
		if got, steps := wantRun(t, m, from, alone); got != 0 || steps != 2 {
			t.Errorf("from %d: got %#x in %d steps", from, got, steps)
		}
	}
}

func TestGenerationsOfWhatIsGot(t *testing.T) { // P9.2
	for _, last := range []int{0, 1, 9, maxLast} {
		for _, gen := range []int{0, 1, last / 2, last, last + 1, maxLast - 1, maxLast} {
			gen = min(gen, maxLast)
			m := worldOf(t, last, word(taken, 0), word(free, gen))
			if got, _ := wantRun(t, m, 2, alone); got != named(2, gen) {
				t.Errorf("Last %d: got %#x in generation %d", last, got, gen)
			}
			if has(m, 2) != word(taken, gen) {
				t.Errorf("Last %d: the slot has %#x behind generation %d", last, has(m, 2), gen)
			}
		}
	}
}

func TestWordsOfGenerationsThatAreNone(t *testing.T) { // P9.1, R1
	for _, w := range []uint64{(maxLast + 1) << 2, 1 << 40, 1 << 63, math.MaxUint64 - 3} {
		m := worldOf(t, 9, w)
		if got, _ := wantRun(t, m, 1, alone); got != named(1, maxLast) {
			t.Errorf("a slot of the word %#x: got %#x", w, got)
		}
	}
}

func TestWordsWrittenBetweenLookAndTake(t *testing.T) { // P9.1
	words := []uint64{word(taken, 2), word(out, 2), word(noState, 2), word(free, 3), word(free, 1), word(taken, 3), math.MaxUint64, word(free, 2) | 1<<63}
	for most := 1; most <= 4; most++ {
		for _, from := range froms(most) {
			for _, w := range words {
				first := route(from, most)[0]
				m := worldOf(t, 9, slices.Repeat([]uint64{word(free, 2)}, most)...)
				got, steps := wantRun(t, m, from, func(index int) {
					if index == first {
						m.Release(index, w)
					}
				})
				want, in := named(slotBehind(first, most), 2), 4
				if most == 1 {
					want, in = 0, 2
				}
				if got != want || steps != in || has(m, first) != w {
					t.Fatalf("Cap %d, from %d, %#x was written: got %#x in %d steps, and the slot has %#x", most, from, w, got, steps, has(m, first))
				}
			}
		}
	}
}

func TestEveryTakeIsLost(t *testing.T) { // P9.1
	for _, most := range []int{1, 2, 3, 64} {
		for _, from := range froms(most) {
			m := worldOf(t, 9, slices.Repeat([]uint64{word(free, 2)}, most)...)
			got, steps := wantRun(t, m, from, func(index int) { m.Release(index, word(free, 3)) })
			if got != 0 || steps != 2*most {
				t.Errorf("Cap %d, from %d: got %#x in %d steps", most, from, got, steps)
			}
		}
	}
}

func TestTheSameWordWrittenAgainIsTaken(t *testing.T) { // P9.1
	m := worldOf(t, 9, word(free, 2), word(free, 2))
	got, steps := wantRun(t, m, 1, func(index int) {
		m.Release(index, word(taken, 2))
		m.Release(index, word(free, 2))
	})
	if got != named(1, 2) || steps != 2 {
		t.Errorf("got %#x in %d steps", got, steps)
	}
}

func TestSlotsThatAreFreeAgainBehindTheLook(t *testing.T) { // P9.1
	for most := 1; most <= 4; most++ {
		for _, from := range froms(most) {
			m := worldOf(t, 9, slices.Repeat([]uint64{word(taken, 2)}, most)...)
			c := claim.New(from)
			for i, index := range route(from, most) {
				wantAccess(t, "look", m, load(m, index), func() { c.Step(m) })
				m.Release(index, word(free, 3))
				wantTold(t, "look", m, c, i == most-1, 0, from)
			}
			wantIdle(t, "all are free again", m, c)
		}
	}
}

func TestASlotThatIsFreedAheadOfTheLookIsGot(t *testing.T) { // P9.1
	m := worldOf(t, 9, word(taken, 0), word(taken, 0), word(taken, 4))
	c := claim.New(2)
	c.Step(m)
	c.Step(m)
	m.Release(1, word(free, 1))
	wantAccess(t, "look", m, load(m, 1), func() { c.Step(m) })
	wantAccess(t, "take", m, swap(m, 1, word(free, 1)), func() { c.Step(m) })
	wantTold(t, "take", m, c, true, named(1, 1), 2)
}

// TestTwoClaimsAtOnce tries each way in which the steps of two claims can be mixed.
func TestTwoClaimsAtOnce(t *testing.T) { // P9.3
	for most := 1; most <= 3; most++ {
		rows([]uint64{word(free, 1), word(taken, 1)}, most, func(row []uint64) {
			for _, a := range route(1, most) {
				for _, b := range route(1, most) {
					for script := range 1 << (4*most - 1) {
						wantMixed(t, worldOf(t, 9, row...), row, script, a, b)
					}
				}
			}
		})
	}
}

// wantMixed lets the bits of a script say whose step comes next; steps behind these go to the first claim, then to the second.
func wantMixed(t *testing.T, m *mem.Mem, row []uint64, script, a, b int) {
	t.Helper()
	claims := []*claim.Claim{claim.New(a), claim.New(b)}
	for i := range 4*len(row) - 1 {
		claims[script>>i&1].Step(m)
	}
	for _, c := range claims {
		for range 2 * len(row) {
			c.Step(m)
		}
	}
	var got []uint64
	for _, c := range claims {
		if !c.Done() {
			t.Fatalf("%v, from %d and %d, script %b: not Done", row, a, b, script)
		}
		if c.Got() != 0 {
			got = append(got, c.Got())
		}
	}
	slices.Sort(got)
	if len(slices.Compact(slices.Clone(got))) != len(got) {
		t.Fatalf("%v, from %d and %d, script %b: both got %#x", row, a, b, script, got)
	}
	for i, w := range row {
		isGot, now := slices.Contains(got, named(i+1, 1)), has(m, i+1)
		if isGot && w != word(free, 1) || isGot && now != word(taken, 1) || !isGot && now != w {
			t.Fatalf("%v, from %d and %d, script %b: got %#x, slot %d has %#x", row, a, b, script, got, i+1, now)
		}
	}
}

func TestClaimsOneBehindTheOther(t *testing.T) { // P9.2, P9.3
	for _, most := range []int{1, 3, 64} {
		for _, from := range froms(most) {
			m := worldOf(t, 9, make([]uint64, most)...)
			next := from
			for _, index := range route(from, most) {
				got, steps := wantRun(t, m, next, alone)
				if got != named(index, 0) || steps != 2 {
					t.Fatalf("Cap %d, from %d: got %#x in %d steps; want slot %d", most, from, got, steps, index)
				}
				next = slotBehind(index, most)
			}
			if got, steps := wantRun(t, m, next, alone); got != 0 || steps != most {
				t.Fatalf("Cap %d: got %#x in %d steps where all are taken", most, got, steps)
			}
		}
	}
}

func TestClaimsKeepApart(t *testing.T) { // P9.1, R6
	m, other := worldOf(t, 9, 0, 0), worldOf(t, 9, 0, 0)
	a, b := claim.New(1), claim.New(1)
	a.Step(m)
	wantTold(t, "the other claim", m, b, false, 0, 1)
	wantAccess(t, "the other's look", other, load(other, 1), func() { b.Step(other) })
	wantAccess(t, "the take", m, swap(m, 1, 0), func() { a.Step(m) })
	wantTold(t, "the other claim", other, b, false, 0, 1)
	if other.Bank().Count() != 1 || has(other, 1) != 0 {
		t.Errorf("the other world has had %d accesses, and its slot has %#x", other.Bank().Count(), has(other, 1))
	}
}

func TestStepsOverWorldsThatChange(t *testing.T) { // R1, R8
	small, great := worldOf(t, 9, word(taken, 0)), worldOf(t, 9, make([]uint64, 64)...)
	for _, l := range [][]*mem.Mem{{small, great}, {great, small}} {
		for _, from := range []int{-1, 1, 2, 64, 65} {
			c := claim.New(from)
			for i := range 300 {
				m := l[i%2]
				done, count := c.Done(), m.Bank().Count()
				c.Step(m)
				if n := m.Bank().Count() - count; n > 1 || n == 0 && !done {
					t.Fatalf("from %d: %d accesses", from, n)
				}
			}
		}
	}
}

// afterwards tells the word of a slot that is let go of, by the words of chapter 2.
func afterwards(gen, last int) uint64 {
	if gen >= last {
		return word(out, last)
	}
	return word(free, gen+1)
}

func TestBack(t *testing.T) { // P9.2
	for _, last := range []int{0, 1, 3, maxLast - 1, maxLast} {
		for _, gen := range []int{0, 1, last - 1, last, last + 1, maxLast} {
			if gen < 0 || gen > maxLast {
				continue
			}
			for index := 1; index <= 3; index++ {
				for _, had := range []uint64{word(taken, gen), word(free, gen), math.MaxUint64} {
					m := worldOf(t, last, had, had, had)
					want := bank.Access{Kind: bank.Stores, Cell: metaCell(m.Config(), index), Old: had, New: afterwards(gen, last), Done: true}
					for _, h := range []uint64{named(index, gen), named(index, gen) | 1<<62, named(index, gen) &^ (1 << 63)} {
						wantAccess(t, fmt.Sprintf("Back of %#x, Last %d", h, last), m, want, func() { claim.Back(m, h) })
						want.Old = want.New
					}
				}
			}
		}
	}
}

func TestBackWithKnownWords(t *testing.T) { // P9.2
	m := worldOf(t, 9, 13, 37)
	claim.Back(m, 9223372049739677697) // index 1, generation 3
	claim.Back(m, 9223372075509481474) // index 2, generation 9
	if has(m, 1) != 16 || has(m, 2) != 38 {
		t.Errorf("the slots have %d and %d; want 16 and 38", has(m, 1), has(m, 2))
	}
}

func TestBackOfNone(t *testing.T) { // P9.2
	for _, last := range []int{0, 1, 9} {
		m := worldOf(t, last, word(taken, 0), word(taken, 0))
		want := bank.Access{Kind: bank.Stores, Cell: metaCell(m.Config(), 0), Old: word(taken, 0), New: afterwards(0, last), Done: true}
		wantAccess(t, "Back of none", m, want, func() { claim.Back(m, 0) })
	}
}

func TestBackOfWhatIsNoSlot(t *testing.T) { // P9.2
	for _, most := range []int{1, 3, 64} {
		m := worldOf(t, 9, make([]uint64, most)...)
		for _, index := range []int{most + 1, most + 2, 65, 1 << 31, 1<<32 - 1} {
			for _, gen := range []int{0, 9, maxLast} {
				want := bank.Access{Kind: bank.Stores, Cell: -1}
				wantAccess(t, "Back of no slot", m, want, func() { claim.Back(m, named(index, gen)) })
			}
		}
		wantAccess(t, "Back of all bits", m, bank.Access{Kind: bank.Stores, Cell: -1}, func() { claim.Back(m, math.MaxUint64) })
	}
}

func TestWhatIsGivenBackIsGotInTheNextGeneration(t *testing.T) { // P9.3
	for _, last := range []int{0, 1, 5} {
		for _, most := range []int{1, 3} {
			m := worldOf(t, last, slices.Repeat([]uint64{word(taken, last)}, most)...)
			m.Release(most, word(free, 0))
			for gen := 0; gen <= last; gen++ {
				got, _ := wantRun(t, m, 1, alone)
				if got != named(most, gen) {
					t.Fatalf("Last %d: got %#x; want generation %d", last, got, gen)
				}
				claim.Back(m, got)
			}
			if got, steps := wantRun(t, m, 1, alone); got != 0 || steps != most {
				t.Errorf("Last %d: got %#x in %d steps behind the last generation", last, got, steps)
			}
		}
	}
}

func TestWhatIsGivenBackAtTheGreatestLast(t *testing.T) { // P9.3
	m := worldOf(t, maxLast, word(taken, maxLast-1))
	claim.Back(m, named(1, maxLast-1))
	got, _ := wantRun(t, m, 1, alone)
	if got != named(1, maxLast) {
		t.Fatalf("got %#x", got)
	}
	claim.Back(m, got)
	if got, _ := wantRun(t, m, 1, alone); got != 0 || has(m, 1) != word(out, maxLast) {
		t.Errorf("got %#x, and the slot has %#x", got, has(m, 1))
	}
}

func TestWhatIsGivenBackAboveLastIsNotGot(t *testing.T) { // P9.3
	m := worldOf(t, 3, word(taken, 4))
	claim.Back(m, named(1, 4))
	if got, _ := wantRun(t, m, 1, alone); got != 0 || has(m, 1) != word(out, 3) {
		t.Errorf("got %#x, and the slot has %#x", got, has(m, 1))
	}
}

func TestBackWhileAClaimGoesOn(t *testing.T) { // P9.3
	m := worldOf(t, 9, word(free, 2), word(taken, 0))
	c := claim.New(1)
	c.Step(m)
	got, _ := wantRun(t, m, 1, alone)
	claim.Back(m, got)
	wantAccess(t, "take of what was got and given back", m, swap(m, 1, word(free, 2)), func() { c.Step(m) })
	wantTold(t, "lost", m, c, false, 0, 1)
	if has(m, 1) != word(free, 3) {
		t.Errorf("the slot has %#x", has(m, 1))
	}
}
