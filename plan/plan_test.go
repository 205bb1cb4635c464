package plan_test

import (
	"math"
	"testing"

	"stepstone/api"
	"stepstone/handle"
	"stepstone/plan"
)

// part is one number of a configuration; its bounds are told by numbers of the test's own, so that they don't err along with the package.
type part struct {
	name        string
	of          func(c *api.Config) *int
	least, most int
}

func parts() []part {
	return []part{
		{"Threads", func(c *api.Config) *int { return &c.Threads }, 1, 8},
		{"Slots", func(c *api.Config) *int { return &c.Slots }, 1, 8},
		{"Cap", func(c *api.Config) *int { return &c.Cap }, 1, 64},
		{"Height", func(c *api.Config) *int { return &c.Height }, 1, 6},
		{"Keep", func(c *api.Config) *int { return &c.Keep }, 1, 64},
		{"Every", func(c *api.Config) *int { return &c.Every }, 1, 64},
		{"Last", func(c *api.Config) *int { return &c.Last }, 0, 1<<30 - 1},
	}
}

func ordinary() api.Config {
	return api.Config{Threads: 2, Slots: 2, Cap: 3, Height: 2, Keep: 1, Every: 1, Last: 9}
}

func smallest() api.Config {
	return api.Config{Threads: 1, Slots: 1, Cap: 1, Height: 1, Keep: 1, Every: 1, Last: 0}
}

func greatest() api.Config {
	return api.Config{Threads: 8, Slots: 8, Cap: 64, Height: 6, Keep: 64, Every: 64, Last: 1<<30 - 1}
}

// with tells c with another number in one of its parts.
func with(c api.Config, p part, n int) api.Config {
	*p.of(&c) = n
	return c
}

// rightConfigs has each part at its least and its greatest, alone and along with all others.
func rightConfigs() []api.Config {
	l := []api.Config{ordinary(), smallest(), greatest(), {Threads: 3, Slots: 5, Cap: 7, Height: 4, Keep: 2, Every: 6, Last: 1}}
	for _, c := range l {
		for _, p := range parts() {
			l = append(l, with(c, p, p.least), with(c, p, p.most))
		}
	}
	return l
}

// wrongConfigs has one part that is wrong, in turn, in configurations that are right otherwise.
func wrongConfigs() []api.Config {
	l := []api.Config{{}}
	for _, c := range []api.Config{ordinary(), smallest(), greatest()} {
		for _, p := range parts() {
			for _, n := range []int{p.least - 1, p.most + 1, -p.most, math.MinInt, math.MaxInt, 1 << 32, 1<<32 + 1} {
				l = append(l, with(c, p, n))
			}
		}
	}
	return l
}

// extremes has numbers which, worked out with wrap-round, might come to a cell that there is.
func extremes() []int {
	return []int{math.MinInt, math.MinInt + 1, math.MaxInt, math.MaxInt - 1, 1 << 62, 1 << 61, 1 << 60, -1 << 61, 1 << 32, -1 << 32, 1000000, -1000000}
}

func TestFieldsAndKindsAreCounted(t *testing.T) { // P4.2, P4.3
	fields := []int{plan.Meta, plan.Key, plan.Value, plan.Birth, plan.Tall, plan.Owners, plan.Next}
	for i, f := range fields {
		if f != i {
			t.Errorf("field %d is %d", i, f)
		}
	}
	kinds := []int{plan.Nothing, plan.Clock, plan.Reservation, plan.Field}
	for i, k := range kinds {
		if k != i {
			t.Errorf("kind %d is %d", i, k)
		}
	}
}

func TestRightWithinTheBounds(t *testing.T) { // P4.1
	for _, c := range rightConfigs() {
		if !plan.Right(c) {
			t.Errorf("Right(%+v) is false", c)
		}
	}
	for _, p := range parts() {
		for n := p.least; n <= min(p.most, 100); n++ {
			if !plan.Right(with(ordinary(), p, n)) {
				t.Errorf("%s of %d is not right", p.name, n)
			}
		}
	}
}

func TestRightRefusesEachPartBeyondItsBounds(t *testing.T) { // P4.1
	for _, p := range parts() {
		for _, n := range []int{p.least - 1, p.most + 1, math.MinInt, math.MaxInt} {
			if plan.Right(with(ordinary(), p, n)) {
				t.Errorf("%s of %d is right", p.name, n)
			}
		}
	}
	for _, c := range wrongConfigs() {
		if plan.Right(c) {
			t.Errorf("Right(%+v) is true", c)
		}
	}
}

func TestLen(t *testing.T) { // P4.2
	for _, x := range []struct {
		c api.Config
		n int
	}{
		{ordinary(), 37},
		{smallest(), 16},
		{greatest(), 845},
		{with(ordinary(), parts()[0], 8), 49},
		{with(ordinary(), parts()[1], 8), 49},
		{with(ordinary(), parts()[2], 64), 525},
		{with(ordinary(), parts()[3], 6), 53},
		{with(ordinary(), parts()[4], 64), 37},
		{with(ordinary(), parts()[5], 64), 37},
		{with(ordinary(), parts()[6], 0), 37},
		{with(ordinary(), parts()[6], api.MaxLast), 37},
	} {
		if n := plan.Len(x.c); n != x.n {
			t.Errorf("Len(%+v) = %d; want %d", x.c, n, x.n)
		}
	}
}

func TestReserved(t *testing.T) { // P4.2
	for _, x := range []struct {
		c                  api.Config
		thread, slot, cell int
	}{
		{ordinary(), 0, 0, 1},
		{ordinary(), 0, 1, 2},
		{ordinary(), 1, 0, 3},
		{ordinary(), 1, 1, 4},
		{smallest(), 0, 0, 1},
		{greatest(), 0, 0, 1},
		{greatest(), 0, 7, 8},
		{greatest(), 1, 0, 9},
		{greatest(), 7, 0, 57},
		{greatest(), 7, 7, 64},
		{with(ordinary(), parts()[1], 3), 1, 2, 6},
	} {
		if n := plan.Reserved(x.c, x.thread, x.slot); n != x.cell {
			t.Errorf("Reserved(%+v, %d, %d) = %d; want %d", x.c, x.thread, x.slot, n, x.cell)
		}
	}
}

func TestCell(t *testing.T) { // P4.2
	for _, x := range []struct {
		c                  api.Config
		index, field, cell int
	}{
		{ordinary(), 0, plan.Meta, 5},
		{ordinary(), 0, plan.Next + 1, 12},
		{ordinary(), 1, plan.Meta, 13},
		{ordinary(), 1, plan.Key, 14},
		{ordinary(), 1, plan.Owners, 18},
		{ordinary(), 1, plan.Next, 19},
		{ordinary(), 3, plan.Meta, 29},
		{ordinary(), 3, plan.Next + 1, 36},
		{smallest(), 0, plan.Meta, 2},
		{smallest(), 0, plan.Next, 8},
		{smallest(), 1, plan.Meta, 9},
		{smallest(), 1, plan.Next, 15},
		{greatest(), 0, plan.Meta, 65},
		{greatest(), 0, plan.Next + 5, 76},
		{greatest(), 64, plan.Meta, 833},
		{greatest(), 64, plan.Next + 5, 844},
	} {
		if n := plan.Cell(x.c, x.index, x.field); n != x.cell {
			t.Errorf("Cell(%+v, %d, %d) = %d; want %d", x.c, x.index, x.field, n, x.cell)
		}
	}
}

func TestNoReservationBeyondTheBounds(t *testing.T) { // P4.2
	for _, c := range rightConfigs() {
		for thread := -10; thread <= 20; thread++ {
			for slot := -10; slot <= 20; slot++ {
				there := thread >= 0 && thread < c.Threads && slot >= 0 && slot < c.Slots
				if n := plan.Reserved(c, thread, slot); (n >= 0) != there || n < -1 {
					t.Errorf("Reserved(%+v, %d, %d) = %d", c, thread, slot, n)
				}
			}
		}
	}
}

func TestNoFieldBeyondTheBounds(t *testing.T) { // P4.2
	for _, c := range rightConfigs() {
		for index := -10; index <= 70; index++ {
			for field := -15; field <= 30; field++ {
				there := index >= 0 && index <= c.Cap && field >= 0 && field < 6+c.Height
				if n := plan.Cell(c, index, field); (n >= 0) != there || n < -1 {
					t.Errorf("Cell(%+v, %d, %d) = %d", c, index, field, n)
				}
			}
		}
	}
}

func TestNoCellOfExtremes(t *testing.T) { // P4.2, P4.3
	for _, c := range rightConfigs() {
		for _, n := range extremes() {
			for _, m := range append(extremes(), -1, 0, 1, 2) {
				for _, cell := range []int{plan.Reserved(c, n, m), plan.Reserved(c, m, n), plan.Cell(c, n, m), plan.Cell(c, m, n)} {
					if cell != -1 {
						t.Errorf("%+v: cell %d of %d, %d", c, cell, n, m)
					}
				}
			}
			if p := plan.Where(c, n); p != (plan.Place{}) {
				t.Errorf("Where(%+v, %d) = %v", c, n, p)
			}
		}
	}
}

func TestNothingOfAConfigurationThatIsNotRight(t *testing.T) { // P4.2, P4.3
	numbers := append(extremes(), -1, 0, 1, 2, 5, 13, 36)
	for _, c := range wrongConfigs() {
		if n := plan.Len(c); n != 0 {
			t.Errorf("Len(%+v) = %d", c, n)
		}
		for _, n := range numbers {
			for _, m := range numbers {
				if r, f := plan.Reserved(c, n, m), plan.Cell(c, n, m); r != -1 || f != -1 {
					t.Errorf("%+v: of %d, %d the cells %d, %d", c, n, m, r, f)
				}
			}
			if p := plan.Where(c, n); p != (plan.Place{}) {
				t.Errorf("Where(%+v, %d) = %v", c, n, p)
			}
		}
	}
}

func TestWhere(t *testing.T) { // P4.3
	for _, x := range []struct {
		c    api.Config
		cell int
		p    plan.Place
	}{
		{ordinary(), 0, plan.Place{Kind: plan.Clock}},
		{ordinary(), 1, plan.Place{Kind: plan.Reservation}},
		{ordinary(), 2, plan.Place{Kind: plan.Reservation, A: 0, B: 1}},
		{ordinary(), 3, plan.Place{Kind: plan.Reservation, A: 1, B: 0}},
		{ordinary(), 4, plan.Place{Kind: plan.Reservation, A: 1, B: 1}},
		{ordinary(), 5, plan.Place{Kind: plan.Field, A: 0, B: plan.Meta}},
		{ordinary(), 12, plan.Place{Kind: plan.Field, A: 0, B: 7}},
		{ordinary(), 13, plan.Place{Kind: plan.Field, A: 1, B: plan.Meta}},
		{ordinary(), 36, plan.Place{Kind: plan.Field, A: 3, B: 7}},
		{ordinary(), 37, plan.Place{}},
		{ordinary(), 38, plan.Place{}},
		{ordinary(), -1, plan.Place{}},
		{ordinary(), -37, plan.Place{}},
		{smallest(), 0, plan.Place{Kind: plan.Clock}},
		{smallest(), 1, plan.Place{Kind: plan.Reservation}},
		{smallest(), 2, plan.Place{Kind: plan.Field}},
		{smallest(), 15, plan.Place{Kind: plan.Field, A: 1, B: plan.Next}},
		{smallest(), 16, plan.Place{}},
		{greatest(), 64, plan.Place{Kind: plan.Reservation, A: 7, B: 7}},
		{greatest(), 65, plan.Place{Kind: plan.Field}},
		{greatest(), 844, plan.Place{Kind: plan.Field, A: 64, B: 11}},
		{greatest(), 845, plan.Place{}},
	} {
		if p := plan.Where(x.c, x.cell); p != x.p {
			t.Errorf("Where(%+v, %d) = %v; want %v", x.c, x.cell, p, x.p)
		}
	}
}

func TestHead(t *testing.T) { // P4.3
	w := plan.Head()
	if w != 1<<63 {
		t.Errorf("Head() = %#x", w)
	}
	if !handle.Valid(w) || handle.Marked(w) || handle.Index(w) != 0 || handle.Gen(w) != 0 {
		t.Errorf("Head() = %#x names another node", w)
	}
}

// inOrder has the places of a world's cells, one behind the other, as the chapter lays them out.
func inOrder(c api.Config) []plan.Place {
	l := []plan.Place{{Kind: plan.Clock}}
	for thread := range c.Threads {
		for slot := range c.Slots {
			l = append(l, plan.Place{Kind: plan.Reservation, A: thread, B: slot})
		}
	}
	for index := range c.Cap + 1 {
		for field := range 6 + c.Height {
			l = append(l, plan.Place{Kind: plan.Field, A: index, B: field})
		}
	}
	return l
}

func TestEachCellIsJustOneThing(t *testing.T) { // P4.2, P4.3, P4.4
	for _, c := range rightConfigs() {
		l := inOrder(c)
		if n := plan.Len(c); n != len(l) {
			t.Errorf("Len(%+v) = %d; want %d", c, n, len(l))
		}
		for cell, want := range l {
			if p := plan.Where(c, cell); p != want {
				t.Errorf("Where(%+v, %d) = %v; want %v", c, cell, p, want)
			}
		}
	}
}

func TestAPlacesCellIsThatPlace(t *testing.T) { // P4.4
	for _, c := range rightConfigs() {
		for cell := range plan.Len(c) {
			p := plan.Where(c, cell)
			is := cell
			switch p.Kind {
			case plan.Clock:
				is = 0
			case plan.Reservation:
				is = plan.Reserved(c, p.A, p.B)
			case plan.Field:
				is = plan.Cell(c, p.A, p.B)
			default:
				t.Errorf("%+v: the cell %d is nothing", c, cell)
			}
			if is != cell {
				t.Errorf("%+v: the cell %d is %v, whose cell is %d", c, cell, p, is)
			}
		}
	}
}
