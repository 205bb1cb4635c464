package hist_test

import (
	"maps"
	"math"
	"slices"
	"testing"

	"stepstone/api"
	"stepstone/hist"
	"stepstone/seq"
)

const greatest = uint64(math.MaxUint64)

func get(k uint64) api.Op            { return api.Op{Kind: api.Get, K: k} }
func put(k, v uint64) api.Op         { return api.Op{Kind: api.Put, K: k, V: v} }
func remove(k uint64) api.Op         { return api.Op{Kind: api.Delete, K: k} }
func ceiling(k uint64) api.Op        { return api.Op{Kind: api.Ceiling, K: k} }
func span(k, v uint64, n int) api.Op { return api.Op{Kind: api.Range, K: k, V: v, N: n} }

func none() api.Answer            { return api.Answer{} }
func full() api.Answer            { return api.Answer{Full: true} }
func had(v uint64) api.Answer     { return api.Answer{Had: true, Got: v} }
func keys(l ...uint64) api.Answer { return api.Answer{Keys: l} }

// kinds has an op of each Kind but Range, and of some that are none.
func kinds() []api.Op {
	return []api.Op{get(5), put(5, 7), remove(5), ceiling(5), odd(0), odd(6), odd(-1), odd(math.MaxInt), odd(math.MinInt)}
}

func odd(kind int) api.Op { return api.Op{Kind: kind, K: 5, V: 7, N: 3} }

func done(o api.Op, a api.Answer, begin, at, end int) hist.Event {
	return hist.Event{Op: o, Answer: a, Begin: begin, At: at, End: end, Done: true}
}

func goesOn(o api.Op, begin, at int) hist.Event {
	return hist.Event{Op: o, Begin: begin, At: at}
}

func events(l ...hist.Event) []hist.Event { return l }

func pairs(l ...uint64) []seq.Pair {
	var p []seq.Pair
	for i := 0; i < len(l); i += 2 {
		p = append(p, seq.Pair{K: l[i], V: l[i+1]})
	}
	return p
}

func wantOrder(t *testing.T, why string, l []hist.Event, want ...int) {
	t.Helper()
	if got := hist.Order(l); !slices.Equal(got, want) {
		t.Errorf("%s: Order: %v; want %v", why, got, want)
	}
}

func wantMap(t *testing.T, why string, l []hist.Event, at int, want ...uint64) {
	t.Helper()
	if got := hist.Map(l, at).Pairs(); !slices.Equal(got, pairs(want...)) {
		t.Errorf("%s: Map at %d: %v; want %v", why, at, got, pairs(want...))
	}
}

func wantLegal(t *testing.T, why string, want bool, l ...hist.Event) {
	t.Helper()
	if got := hist.Legal(l); got != want {
		t.Errorf("%s: Legal: %v; want %v: %v", why, got, want, l)
	}
}

func wantRanges(t *testing.T, why string, want bool, l ...hist.Event) {
	t.Helper()
	if got := hist.Ranges(l); got != want {
		t.Errorf("%s: Ranges: %v; want %v: %v", why, got, want, l)
	}
}

func TestOrderOfNoneAndOne(t *testing.T) { // P8.1
	wantOrder(t, "no events", nil)
	wantOrder(t, "no events", events())
	wantMap(t, "no events", nil, 0)
	wantMap(t, "no events", nil, math.MaxInt)
	for _, o := range kinds() {
		for _, at := range []int{1, 2, math.MaxInt} {
			wantOrder(t, "Done", events(done(o, none(), 1, at, 9)), 0)
			wantOrder(t, "goes on", events(goesOn(o, 1, at)), 0)
		}
		for _, at := range []int{0, -1, math.MinInt} {
			wantOrder(t, "Done, and did not happen", events(done(o, none(), 1, at, 9)))
			wantOrder(t, "goes on, and did not happen", events(goesOn(o, 1, at)))
			wantMap(t, "Done, and did not happen", events(done(o, none(), 1, at, 9)), math.MaxInt)
			wantMap(t, "goes on, and did not happen", events(goesOn(o, 1, at)), math.MaxInt)
		}
	}
	wantMap(t, "Done", events(done(put(5, 7), none(), 1, 3, 4)), 3, 5, 7)
	wantMap(t, "goes on", events(goesOn(put(5, 7), 1, 3)), 3, 5, 7)
}

func TestOrderIsByAt(t *testing.T) { // P8.1: whatever Begin, End and Thread are
	l := events(
		done(get(1), none(), 1, 9, 9),
		done(put(1, 1), none(), 9, 2, 1),
		goesOn(put(2, 1), 3, 5),
		goesOn(put(3, 1), 3, 0),
		done(remove(1), none(), 0, 1, 99),
		done(ceiling(1), none(), 2, 7, 2),
	)
	wantOrder(t, "another order than they happened", l, 4, 1, 2, 5, 0)
	for i := range l {
		l[i].Thread = -i
	}
	wantOrder(t, "threads are of no account", l, 4, 1, 2, 5, 0)
	slices.Reverse(l)
	wantOrder(t, "the other way round", l, 1, 4, 3, 0, 5)
	wide := events(goesOn(get(0), 1, math.MaxInt), goesOn(get(0), 1, math.MinInt), goesOn(get(0), 1, 1))
	wantOrder(t, "far apart", wide, 2, 0)
}

func TestOrderOfOneAt(t *testing.T) { // P8.1
	at := func(l ...int) []hist.Event {
		var all []hist.Event
		for i, a := range l {
			all = append(all, goesOn(put(5, uint64(i)), 1, a))
		}
		return all
	}
	wantOrder(t, "two", at(4, 4), 0, 1)
	wantOrder(t, "three", at(4, 4, 4), 0, 1, 2)
	wantOrder(t, "two, and others", at(4, 2, 4, 3, 2), 1, 4, 3, 0, 2)
	wantMap(t, "the last place counts", at(4, 4), 4, 5, 1)
	wantMap(t, "the last place counts", at(4, 3, 4, 2), 4, 5, 2)
	var ats, want []int
	for i := range 300 { // so many that a sort which isn't stable would mix them
		ats = append(ats, 3-i%3)
	}
	for first := 2; first >= 0; first-- {
		for i := first; i < 300; i += 3 {
			want = append(want, i)
		}
	}
	wantOrder(t, "many", at(ats...), want...)
}

func TestOrderLeavesOutRangesAndFulls(t *testing.T) { // P8.1
	r := goesOn(span(0, 9, 9), 1, 3)
	wantOrder(t, "a Range that goes on", events(r))
	wantOrder(t, "a Range that is Done", events(done(span(0, 9, 9), none(), 1, 3, 4)))
	for _, o := range kinds() {
		wantOrder(t, "Done and Full", events(done(o, full(), 1, 3, 4)))
		going := goesOn(o, 1, 3)
		going.Answer = full()
		wantOrder(t, "Full in the Answer of one that goes on", events(going), 0)
		other := done(o, api.Answer{Had: true, Got: 1, Keys: []uint64{1}}, 1, 3, 4)
		wantOrder(t, "whatever else it told", events(other), 0)
	}
	l := events(done(put(1, 1), full(), 1, 2, 3), r, done(put(2, 2), none(), 1, 5, 6), done(remove(2), full(), 1, 6, 7), done(put(3, 3), none(), 1, 4, 6))
	wantOrder(t, "among others", l, 4, 2)
	wantMap(t, "among others", l, 9, 2, 2, 3, 3)
	going := goesOn(put(5, 7), 1, 3)
	going.Answer = full()
	wantMap(t, "Full in the Answer of one that goes on", events(going), 3, 5, 7)
}

func TestMapAtAllTimes(t *testing.T) { // P8.1
	l := events(
		done(remove(5), had(8), 1, 9, 9),
		done(put(5, 7), none(), 1, 3, 4),
		done(put(6, 1), none(), 1, 5, 9),
		goesOn(put(5, 9), 1, 11),
		done(put(5, 8), had(7), 1, 7, 8),
		done(get(5), none(), 1, 8, 8),
		done(odd(6), none(), 1, 8, 8),
		done(ceiling(5), none(), 1, 10, 10),
	)
	for at, want := range map[int][]uint64{
		math.MinInt: nil, -3: nil, -1: nil, 0: nil, 1: nil, 2: nil,
		3: {5, 7}, 4: {5, 7}, 5: {5, 7, 6, 1}, 6: {5, 7, 6, 1},
		7: {5, 8, 6, 1}, 8: {5, 8, 6, 1}, 9: {6, 1}, 10: {6, 1},
		11: {5, 9, 6, 1}, 12: {5, 9, 6, 1}, math.MaxInt: {5, 9, 6, 1},
	} {
		wantMap(t, "Puts and Deletes", l, at, want...)
	}
	below := events(done(put(5, 7), none(), 1, -2, 4), goesOn(put(6, 7), 1, 0))
	wantMap(t, "what did not happen", below, -2)
	wantMap(t, "what did not happen", below, 0)
	wantMap(t, "what did not happen", below, 9)
}

func TestLegalExamples(t *testing.T) { // P8.2
	wantLegal(t, "the first example", true, done(put(5, 7), none(), 1, 3, 4), done(get(5), had(7), 2, 5, 6))
	wantLegal(t, "the first example, told the other way round", true, done(get(5), had(7), 2, 5, 6), done(put(5, 7), none(), 1, 3, 4))
	wantLegal(t, "the second example", false, done(get(5), had(7), 1, 2, 3), done(put(5, 7), none(), 1, 3, 4))
	wantLegal(t, "the second example, told the other way round", false, done(put(5, 7), none(), 1, 3, 4), done(get(5), had(7), 1, 2, 3))
	wantLegal(t, "no events", true)
}

func TestLegalOfOneAt(t *testing.T) { // P8.2
	a, b, c := done(get(5), none(), 1, 3, 9), done(get(6), none(), 1, 3, 9), done(get(7), none(), 1, 3, 9)
	wantLegal(t, "one", true, a)
	wantLegal(t, "two of one At", false, a, b)
	wantLegal(t, "three of one At", false, a, b, c)
	wantLegal(t, "two of one At, another one between", false, a, done(get(8), none(), 1, 2, 9), b)
	wantLegal(t, "one Done, one that goes on", false, a, goesOn(put(6, 1), 1, 3))
	wantLegal(t, "two that go on", false, goesOn(put(5, 1), 1, 3), goesOn(put(6, 1), 1, 3))
	wantLegal(t, "near one another", true, a, goesOn(put(6, 1), 1, 4), goesOn(put(6, 1), 1, 2))
	wantLegal(t, "a Range of that At", true, a, done(span(0, 9, 9), none(), 1, 3, 9), goesOn(span(0, 9, 9), 1, 3))
	wantLegal(t, "a Full of that At", true, a, done(put(5, 1), full(), 1, 3, 9), done(put(5, 1), full(), 1, 3, 9))
	wantLegal(t, "many that did not happen", true, a, goesOn(put(5, 1), 1, 0), goesOn(put(5, 1), 1, 0), goesOn(put(5, 1), 1, -1), goesOn(put(5, 1), 1, -1))
}

func TestLegalOfDoneHappenedMeanwhile(t *testing.T) { // P8.2
	for _, o := range kinds() {
		for _, x := range []struct {
			begin, at, end int
			is             bool
		}{
			{1, 2, 3, true}, {2, 2, 3, true}, {1, 3, 3, true}, {3, 3, 3, true},
			{3, 2, 4, false}, {3, 2, 2, false}, {1, 4, 3, false}, {4, 4, 3, false}, {4, 3, 3, false}, {4, 3, 2, false},
			{1, 0, 3, false}, {0, 0, 0, false}, {-2, -1, 3, false}, {-2, 0, 3, false}, {1, math.MinInt, 3, false},
			{math.MinInt, 1, math.MaxInt, true}, {math.MaxInt, math.MaxInt, math.MaxInt, true}, {math.MinInt, math.MinInt, math.MaxInt, false},
			{1, 1, math.MinInt, false}, {math.MaxInt, 1, math.MaxInt, false},
		} {
			wantLegal(t, "Done", x.is, done(o, none(), x.begin, x.at, x.end))
			wantLegal(t, "Done, ahead of another", x.is, done(o, none(), x.begin, x.at, x.end), goesOn(get(1), 1, 0))
			wantLegal(t, "Done, behind another", x.is, goesOn(get(1), 1, 0), done(o, none(), x.begin, x.at, x.end))
		}
	}
}

func TestLegalOfWhatGoesOn(t *testing.T) { // P8.2
	for _, o := range kinds() {
		for _, x := range []struct {
			begin, at, end int
			is             bool
		}{
			{3, 2, 0, false}, {3, 3, 0, true}, {3, 4, 0, true}, {4, 3, 9, false}, {math.MaxInt, 1, 0, false}, {math.MinInt, 1, 0, true},
			{3, 4, 1, true}, {3, 4, math.MinInt, true}, // End is of no account
			{3, 0, 0, true}, {3, -1, 0, true}, {0, -1, 0, true}, {3, math.MinInt, 0, true},
		} {
			e := goesOn(o, x.begin, x.at)
			e.End = x.end
			wantLegal(t, "goes on", x.is, e)
			for _, a := range []api.Answer{full(), had(9), keys(1), {Full: true, Had: true}} {
				e.Answer = a
				wantLegal(t, "goes on, whatever its Answer has", x.is, e)
			}
		}
	}
}

func TestLegalOfFull(t *testing.T) { // P8.2
	for _, at := range []int{-1, 0, 1, 2, 3, 4} { // of no account, whatever Begin and End are
		wantLegal(t, "a Full Put", true, done(put(5, 7), full(), 2, at, 3))
		wantLegal(t, "a Full Put", true, done(put(5, 7), full(), 3, at, 2))
		wantLegal(t, "a Full Put with an empty row", true, done(put(5, 7), api.Answer{Full: true, Keys: []uint64{}}, 2, at, 3))
		wantLegal(t, "Had", false, done(put(5, 7), api.Answer{Full: true, Had: true}, 2, at, 3))
		wantLegal(t, "Got", false, done(put(5, 7), api.Answer{Full: true, Got: 1}, 2, at, 3))
		wantLegal(t, "Keys", false, done(put(5, 7), api.Answer{Full: true, Keys: []uint64{0}}, 2, at, 3))
		for _, o := range kinds() {
			if o.Kind != api.Put {
				wantLegal(t, "Full, and no Put", false, done(o, full(), 2, at, 3))
				wantLegal(t, "Full, and no Put, with more", false, done(o, api.Answer{Full: true, Had: true, Got: 1}, 2, at, 3))
			}
		}
	}
	wantLegal(t, "a Full Put changes nothing", true, done(put(5, 7), full(), 1, 2, 3), done(get(5), none(), 1, 4, 5))
	wantLegal(t, "a Full Put changes nothing", false, done(put(5, 7), full(), 1, 2, 3), done(get(5), had(7), 1, 4, 5))
}

func TestLegalIsBlindToRanges(t *testing.T) { // P8.2
	for _, a := range []api.Answer{none(), full(), had(9), keys(9, 1), {Full: true, Had: true, Got: 1, Keys: []uint64{1}}} {
		for _, at := range []int{-1, 0, 1, 5, 9} {
			r := done(span(0, 9, 2), a, 3, at, 2)
			wantLegal(t, "a Range", true, r)
			wantLegal(t, "Ranges among others", true, r, done(put(5, 7), none(), 1, 5, 6), r, done(get(5), had(7), 1, 9, 9))
			r.Done = false
			wantLegal(t, "a Range that goes on", true, r)
		}
	}
}

func TestLegalAnswers(t *testing.T) { // P8.2
	setUp := events(done(put(5, 7), none(), 1, 1, 1), done(put(8, 0), none(), 2, 2, 2))
	for _, x := range []struct {
		o api.Op
		a api.Answer
	}{
		{get(5), had(7)}, {get(8), had(0)}, {get(6), none()},
		{put(5, 7), had(7)}, {put(8, 1), had(0)}, {put(6, 1), none()},
		{remove(5), had(7)}, {remove(8), had(0)}, {remove(6), none()},
		{ceiling(0), had(5)}, {ceiling(5), had(5)}, {ceiling(6), had(8)}, {ceiling(9), none()},
		{odd(0), none()}, {odd(6), none()}, {odd(-1), none()},
	} {
		is := func(why string, want bool, a api.Answer) {
			t.Helper()
			wantLegal(t, why, want, append(slices.Clone(setUp), done(x.o, a, 3, 3, 3))...)
			wantLegal(t, why, want, append(events(done(x.o, a, 3, 3, 3)), setUp...)...)
		}
		is("what the map tells", true, x.a)
		differ := x.a
		differ.Keys = []uint64{}
		is("no keys are an empty row", true, differ)
		differ.Keys = []uint64{5}
		is("Keys", false, differ)
		differ = x.a
		differ.Had = !x.a.Had
		is("Had", false, differ)
		differ = x.a
		differ.Got++
		is("Got", false, differ)
	}
}

func TestLegalCountsWhatIsAhead(t *testing.T) { // P8.2
	p := done(put(5, 7), none(), 1, 3, 9)
	for at, a := range map[int]api.Answer{2: none(), 4: had(7)} {
		other := map[int]api.Answer{2: had(7), 4: none()}[at]
		wantLegal(t, "a Get", true, p, done(get(5), a, 1, at, 9))
		wantLegal(t, "a Get, first", true, done(get(5), a, 1, at, 9), p)
		wantLegal(t, "a Get", false, p, done(get(5), other, 1, at, 9))
		wantLegal(t, "a Get, first", false, done(get(5), other, 1, at, 9), p)
	}
	wantLegal(t, "what goes on counts", true, goesOn(put(5, 7), 1, 3), done(get(5), had(7), 1, 4, 9))
	wantLegal(t, "what goes on counts", false, goesOn(put(5, 7), 1, 3), done(get(5), none(), 1, 4, 9))
	wantLegal(t, "and is not asked what it told", true, p, goesOn(get(5), 1, 4))
	wantLegal(t, "a Delete counts", true, p, done(remove(5), had(7), 1, 4, 9), done(get(5), none(), 1, 5, 9))
	wantLegal(t, "a Delete counts", false, p, done(remove(5), had(7), 1, 4, 9), done(get(5), had(7), 1, 5, 9))
	wantLegal(t, "a Delete behind does not", true, p, done(remove(5), had(7), 1, 6, 9), done(get(5), had(7), 1, 5, 9))
	wantLegal(t, "the last of several is wrong", false, p, done(put(5, 8), had(7), 1, 4, 9), done(get(5), had(7), 1, 5, 9))
	wantLegal(t, "the first of several is wrong", false, done(put(5, 7), had(1), 1, 3, 9), done(put(5, 8), had(7), 1, 4, 9), done(get(5), had(8), 1, 5, 9))
	wantLegal(t, "an own effect is not ahead", false, done(put(5, 7), had(7), 1, 3, 9))
}

func TestKindsThatAreNone(t *testing.T) { // P8.1, P8.2, P8.3, wrong inputs
	for _, kind := range []int{math.MinInt, -1, 0, 6, 1<<32 + api.Put, math.MaxInt} {
		l := events(done(put(5, 7), none(), 1, 1, 1), done(odd(kind), none(), 2, 2, 2), goesOn(odd(kind), 1, 3), done(get(5), had(7), 4, 4, 4))
		wantOrder(t, "of no Kind", l, 0, 1, 2, 3)
		wantMap(t, "of no Kind", l, 9, 5, 7)
		wantLegal(t, "of no Kind", true, l...)
		wantLegal(t, "of no Kind, and tells something", false, done(odd(kind), had(0), 2, 2, 2))
		wantLegal(t, "of no Kind, and tells keys", false, done(odd(kind), keys(5), 2, 2, 2))
		wantLegal(t, "of no Kind, Full", false, done(odd(kind), full(), 2, 2, 2))
		wantLegal(t, "of no Kind, Done, and did not happen", false, done(odd(kind), none(), 2, 0, 2))
		wantLegal(t, "of no Kind, at the At of another", false, done(put(5, 7), none(), 1, 2, 2), goesOn(odd(kind), 1, 2))
		wantRanges(t, "of no Kind", true, append(l, done(odd(kind), keys(9, 1), 9, 9, 1))...)
	}
}

func TestCallsLeaveWhatTheyAreGiven(t *testing.T) { // R5, R6
	l := scrambled(60, 3)
	copied := slices.Clone(l)
	for i := range copied {
		copied[i].Answer.Keys = slices.Clone(l[i].Answer.Keys)
	}
	order := hist.Order(l)
	hist.Map(l, 30)
	hist.Legal(l)
	hist.Ranges(l)
	for i, e := range l {
		same := e.Op == copied[i].Op && e.Thread == copied[i].Thread && e.Begin == copied[i].Begin && e.At == copied[i].At && e.End == copied[i].End && e.Done == copied[i].Done
		if !same || !seq.Same(e.Answer, copied[i].Answer) {
			t.Errorf("the event %d became %v; was %v", i, e, copied[i])
		}
	}
	was := slices.Clone(order)
	other := hist.Order(l)
	for i := range other {
		other[i] = -7
	}
	if !slices.Equal(order, was) || !slices.Equal(hist.Order(l), was) {
		t.Error("writing into what Order told changed what it tells")
	}
}

func TestWhatDidNotHappenIsOfNoAccount(t *testing.T) { // P8.4
	for seed := range uint64(300) {
		l := scrambled(8, seed)
		var more []hist.Event
		var place []int // of each event of l, in more
		for i, e := range l {
			more = append(more, goesOn(kinds()[i%9], i, -(i%3)))
			place = append(place, len(more))
			more = append(more, e)
		}
		var want []int
		for _, i := range hist.Order(l) {
			want = append(want, place[i])
		}
		wantOrder(t, "with others that did not happen", more, want...)
		for at := -1; at < 20; at++ {
			if !slices.Equal(hist.Map(l, at).Pairs(), hist.Map(more, at).Pairs()) {
				t.Errorf("others that did not happen changed the Map at %d of %v", at, l)
			}
		}
		wantLegal(t, "with others that did not happen", hist.Legal(l), more...)
	}
}

func TestOpsOneBehindTheOtherAreLegal(t *testing.T) { // P8.4
	for seed := range uint64(40) {
		var m seq.Map
		var l []hist.Event
		for i, o := range scrambledOps(60, seed) {
			var a api.Answer
			m, a = m.Do(o)
			l = append(l, done(o, a, 3*i+1, 3*i+2, 3*i+3))
			l[i].Thread = i % 3
		}
		wantLegal(t, "one behind the other", true, l...)
		wantRanges(t, "one behind the other", true, l...)
		if !slices.Equal(hist.Map(l, math.MaxInt).Pairs(), m.Pairs()) {
			t.Errorf("the Map behind all: %v; want %v", hist.Map(l, math.MaxInt).Pairs(), m.Pairs())
		}
		for i := range l {
			was := l[i]
			if was.Op.Kind == api.Range {
				continue
			}
			l[i].Answer.Got++
			wantLegal(t, "but for one answer", false, l...)
			l[i] = was
		}
		slices.Reverse(l)
		wantLegal(t, "told from the last one on", true, l...)
	}
}

// random tells numbers below a bound, always the same ones of one seed.
func random(seed uint64) func(below uint64) uint64 {
	x := seed*2654435761 + 1
	return func(below uint64) uint64 {
		x = x*6364136223846793005 + 1442695040888963407
		return x >> 33 % below
	}
}

func scrambledOps(n int, seed uint64) []api.Op {
	next := random(seed)
	var l []api.Op
	for range n {
		o := api.Op{Kind: []int{api.Put, api.Put, api.Delete, api.Get, api.Ceiling, api.Range, 7}[next(7)], K: next(5), V: next(6), N: int(next(5)) - 1}
		l = append(l, o)
	}
	return l
}

// scrambled has n events of few keys and few accesses, some of them wrong.
func scrambled(n int, seed uint64) []hist.Event {
	next := random(seed + 1000)
	var l []hist.Event
	for i, o := range scrambledOps(n, seed) {
		e := hist.Event{Thread: i, Op: o, Done: next(4) > 0}
		e.Begin = int(next(12)) - 1
		e.At = e.Begin + int(next(5)) - 1
		e.End = e.At + int(next(6)) - 1
		e.Answer = api.Answer{Full: next(9) == 0, Had: next(3) == 0, Got: next(2)}
		if o.Kind == api.Range {
			e.Answer = api.Answer{}
			for k := uint64(0); k < 5; k++ {
				if next(3) == 0 {
					e.Answer.Keys = append(e.Answer.Keys, k)
				}
			}
		}
		l = append(l, e)
	}
	return l
}

// counted answers as the chapter's words do: the places of the events that happened, by going through all accesses.
func counted(l []hist.Event, most int) []int {
	var order []int
	for at := 1; at <= most; at++ {
		for i, e := range l {
			if e.At == at && e.Op.Kind != api.Range && !(e.Done && e.Answer.Full) {
				order = append(order, i)
			}
		}
	}
	return order
}

// model is the map behind the events of counted, as a map of the language.
func model(l []hist.Event, at int) map[uint64]uint64 {
	m := map[uint64]uint64{}
	for _, i := range counted(l, at) {
		switch o := l[i].Op; o.Kind {
		case api.Put:
			m[o.K] = o.V
		case api.Delete:
			delete(m, o.K)
		}
	}
	return m
}

// legal asks of each two events, and of each one, what the chapter says.
func legal(l []hist.Event) bool {
	var m seq.Map
	order := counted(l, 40)
	for _, i := range order {
		for _, j := range order {
			if i != j && l[i].At == l[j].At {
				return false
			}
		}
	}
	for _, e := range l {
		isFull, isRange := e.Answer.Full, e.Op.Kind == api.Range
		if e.Done && !isRange && !isFull && (e.At <= 0 || e.Begin > e.At || e.At > e.End) {
			return false
		}
		if !e.Done && !isRange && e.At > 0 && e.Begin > e.At {
			return false
		}
		if e.Done && !isRange && isFull && (e.Op.Kind != api.Put || e.Answer.Had || e.Answer.Got != 0 || len(e.Answer.Keys) != 0) {
			return false
		}
	}
	for _, i := range order {
		next, a := m.Do(l[i].Op)
		if l[i].Done && !seq.Same(a, l[i].Answer) {
			return false
		}
		m = next
	}
	return true
}

// ranges asks of each Range, of each key and each access, what the chapter says.
func ranges(l []hist.Event) bool {
	for _, e := range l {
		if e.Op.Kind != api.Range || !e.Done {
			continue
		}
		if e.End < e.Begin || !slices.IsSorted(e.Answer.Keys) || len(e.Answer.Keys) > max(0, e.Op.N) {
			return false
		}
		moments := map[uint64]int{}
		for at := e.Begin; at <= e.End; at++ {
			for k := range model(l, at) {
				moments[k]++
			}
		}
		for _, k := range e.Answer.Keys {
			if k < e.Op.K || k > e.Op.V || moments[k] == 0 {
				return false
			}
		}
		for k, n := range moments {
			if n < e.End-e.Begin+1 || k < e.Op.K || k > e.Op.V || slices.Contains(e.Answer.Keys, k) || e.Op.N < 1 {
				continue
			}
			if len(e.Answer.Keys) != e.Op.N || k < slices.Max(e.Answer.Keys) {
				return false
			}
		}
	}
	return true
}

func TestScrambledEvents(t *testing.T) { // P8.1, P8.2, P8.3
	said := map[string]int{}
	for seed := range uint64(20000) {
		l := scrambled(int(seed%7), seed)
		wantOrder(t, "scrambled", l, counted(l, 40)...)
		for at := -1; at < 20; at += 3 {
			m := model(l, at)
			var want []uint64
			for _, k := range slices.Sorted(maps.Keys(m)) {
				want = append(want, k, m[k])
			}
			wantMap(t, "scrambled", l, at, want...)
		}
		wantLegal(t, "scrambled", legal(l), l...)
		wantRanges(t, "scrambled", ranges(l), l...)
		if legal(l) {
			said["legal"]++
		}
		if ranges(l) {
			said["ranges"]++
		}
		if t.Failed() {
			return
		}
	}
	for _, n := range said { // else the model would hardly be asked
		if n < 1000 || n > 19000 {
			t.Errorf("too few of one kind: %v", said)
		}
	}
}

// TestScrambledRanges asks one Range at a time, so that it is right often enough to matter.
func TestScrambledRanges(t *testing.T) { // P8.3
	right := 0
	for seed := range uint64(20000) {
		next := random(seed)
		var l []hist.Event
		for _, o := range scrambledOps(6, seed) {
			if o.Kind != api.Range {
				l = append(l, goesOn(o, 1, int(next(8))))
			}
		}
		begin := int(next(9)) - 1
		end := begin + int(next(4))
		var told []uint64
		for k := range model(l, begin+int(next(2))) {
			if next(5) > 0 {
				told = append(told, k)
			}
		}
		slices.Sort(told)
		r := done(span(next(3), 3+next(3), int(next(5))), keys(told...), begin, 1, end)
		l = slices.Insert(l, int(next(uint64(len(l)+1))), r)
		wantRanges(t, "scrambled", ranges(l), l...)
		if ranges(l) {
			right++
		}
		if t.Failed() {
			return
		}
	}
	if right < 2000 || right > 18000 {
		t.Errorf("too few of one kind: %d are right", right)
	}
}
