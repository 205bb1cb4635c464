package seq_test

import (
	"maps"
	"math"
	"slices"
	"testing"

	"stepstone/api"
	"stepstone/seq"
)

const greatest = uint64(math.MaxUint64)

func pair(k, v uint64) seq.Pair { return seq.Pair{K: k, V: v} }

func get(k uint64) api.Op            { return api.Op{Kind: api.Get, K: k} }
func put(k, v uint64) api.Op         { return api.Op{Kind: api.Put, K: k, V: v} }
func remove(k uint64) api.Op         { return api.Op{Kind: api.Delete, K: k} }
func ceiling(k uint64) api.Op        { return api.Op{Kind: api.Ceiling, K: k} }
func span(k, v uint64, n int) api.Op { return api.Op{Kind: api.Range, K: k, V: v, N: n} }

func none() api.Answer            { return api.Answer{} }
func had(v uint64) api.Answer     { return api.Answer{Had: true, Got: v} }
func keys(l ...uint64) api.Answer { return api.Answer{Keys: l} }
func equal(a, b api.Answer) bool { // not by Same, which is itself to be tested
	return a.Full == b.Full && a.Had == b.Had && a.Got == b.Got && slices.Equal(a.Keys, b.Keys)
}

// edges has numbers that are near one another, and both ends of all, where a sum or a sign would go round.
func edges() []uint64 {
	return []uint64{0, 1, 2, 3, 4, 5, 1<<63 - 1, 1 << 63, greatest - 1, greatest}
}

// lists has lists of pairs of none, one and several keys.
func lists() [][]seq.Pair {
	return [][]seq.Pair{
		nil,
		{pair(0, 0)},
		{pair(3, 7)},
		{pair(greatest, greatest)},
		{pair(0, greatest), pair(greatest, 0)},
		{pair(2, 5), pair(4, 5)},
		{pair(1, 4), pair(2, 3), pair(3, 2), pair(4, 1)},
		{pair(0, 1), pair(2, 0), pair(4, 9), pair(1<<63-1, 3), pair(1<<63, 2), pair(greatest, 6)},
	}
}

// ops has each Kind, and some that are none, at all edges.
func ops() []api.Op {
	var l []api.Op
	for _, a := range edges() {
		l = append(l, get(a), remove(a), ceiling(a), api.Op{K: a, V: 1, N: 9}, api.Op{Kind: 6, K: a, V: 1, N: 9})
		for _, b := range edges() {
			l = append(l, put(a, b))
			for _, n := range []int{math.MinInt, -1, 0, 1, 2, 3, math.MaxInt} {
				l = append(l, span(a, b, n))
			}
		}
	}
	return l
}

func wantPairs(t *testing.T, why string, m seq.Map, want ...seq.Pair) {
	t.Helper()
	if got := m.Pairs(); !slices.Equal(got, want) {
		t.Errorf("%s: %v; want %v", why, got, want)
	}
}

// wantDo also holds that m itself stays as it was.
func wantDo(t *testing.T, m seq.Map, o api.Op, a api.Answer, behind ...seq.Pair) seq.Map {
	t.Helper()
	ahead := m.Pairs()
	next, got := m.Do(o)
	if !equal(got, a) {
		t.Errorf("%v of %v: %v; want %v", o, ahead, got, a)
	}
	if !slices.Equal(next.Pairs(), behind) {
		t.Errorf("%v of %v: the map %v; want %v", o, ahead, next.Pairs(), behind)
	}
	if !slices.Equal(m.Pairs(), ahead) {
		t.Errorf("%v of %v left %v", o, ahead, m.Pairs())
	}
	return next
}

// model answers o as the chapter's words do, by going through all keys of a map of the language.
func model(m map[uint64]uint64, o api.Op) (map[uint64]uint64, api.Answer) {
	m = maps.Clone(m)
	v, has := m[o.K]
	var a api.Answer
	switch o.Kind {
	case api.Get, api.Put, api.Delete:
		a = api.Answer{Had: has, Got: v}
	case api.Ceiling:
		for k := range m {
			if k >= o.K && (!a.Had || k < a.Got) {
				a = had(k)
			}
		}
	case api.Range:
		for _, k := range slices.Sorted(maps.Keys(m)) {
			if k >= o.K && k <= o.V && len(a.Keys) < o.N {
				a.Keys = append(a.Keys, k)
			}
		}
	}
	switch o.Kind {
	case api.Put:
		m[o.K] = o.V
	case api.Delete:
		delete(m, o.K)
	}
	return m, a
}

func modelOf(l []seq.Pair) map[uint64]uint64 {
	m := map[uint64]uint64{}
	for _, p := range l {
		m[p.K] = p.V
	}
	return m
}

func pairsOf(m map[uint64]uint64) []seq.Pair {
	var l []seq.Pair
	for _, k := range slices.Sorted(maps.Keys(m)) {
		l = append(l, pair(k, m[k]))
	}
	return l
}

// scrambled has n ops of few keys, always the same ones.
func scrambled(n int) []api.Op {
	var l []api.Op
	x := uint64(1)
	next := func(below uint64) uint64 {
		x = x*6364136223846793005 + 1442695040888963407
		return x >> 33 % below
	}
	some := edges()
	for range n {
		l = append(l, api.Op{Kind: int(next(7)), K: some[next(10)], V: some[next(10)], N: int(next(6)) - 1, Tall: int(next(3))})
	}
	return l
}

func scribblePairs(l []seq.Pair) {
	l = l[:cap(l)]
	for i := range l {
		l[i] = pair(99, 99)
	}
}

func scribbleKeys(l []uint64) {
	l = l[:cap(l)]
	for i := range l {
		l[i] = 99
	}
}

func TestExample(t *testing.T) { // P7.2
	m := wantDo(t, seq.Of(), put(5, 7), none(), pair(5, 7))
	m = wantDo(t, m, put(5, 8), had(7), pair(5, 8))
	m = wantDo(t, m, get(5), had(8), pair(5, 8))
	wantDo(t, m, ceiling(3), had(5), pair(5, 8))
}

func TestOf(t *testing.T) { // P7.1
	var zero seq.Map
	wantPairs(t, "the zero map", zero)
	wantPairs(t, "Of nothing", seq.Of())
	wantPairs(t, "Of an empty list", seq.Of([]seq.Pair{}...))
	for _, x := range []struct{ l, want []seq.Pair }{
		{[]seq.Pair{pair(3, 7)}, []seq.Pair{pair(3, 7)}},
		{[]seq.Pair{{}}, []seq.Pair{pair(0, 0)}},
		{[]seq.Pair{pair(greatest, greatest)}, []seq.Pair{pair(greatest, greatest)}},
		{[]seq.Pair{pair(1, 3), pair(2, 2), pair(3, 1)}, []seq.Pair{pair(1, 3), pair(2, 2), pair(3, 1)}},
		{[]seq.Pair{pair(3, 1), pair(2, 2), pair(1, 3)}, []seq.Pair{pair(1, 3), pair(2, 2), pair(3, 1)}},
		{[]seq.Pair{pair(2, 2), pair(3, 1), pair(1, 3)}, []seq.Pair{pair(1, 3), pair(2, 2), pair(3, 1)}},
		{[]seq.Pair{pair(greatest, 0), pair(0, greatest)}, []seq.Pair{pair(0, greatest), pair(greatest, 0)}},
		{[]seq.Pair{pair(1<<63, 1), pair(1<<63-1, 2)}, []seq.Pair{pair(1<<63-1, 2), pair(1<<63, 1)}},
		{[]seq.Pair{pair(1<<63, 1), pair(0, 3), pair(greatest, 2)}, []seq.Pair{pair(0, 3), pair(1<<63, 1), pair(greatest, 2)}},
	} {
		wantPairs(t, "Of", seq.Of(x.l...), x.want...)
	}
}

func TestOfOneKeyTheLastCounts(t *testing.T) { // P7.1
	for _, x := range []struct{ l, want []seq.Pair }{
		{[]seq.Pair{pair(5, 1), pair(5, 2)}, []seq.Pair{pair(5, 2)}},
		{[]seq.Pair{pair(5, 2), pair(5, 1)}, []seq.Pair{pair(5, 1)}},
		{[]seq.Pair{pair(5, 2), pair(5, 2)}, []seq.Pair{pair(5, 2)}},
		{[]seq.Pair{pair(5, 2), pair(5, 0)}, []seq.Pair{pair(5, 0)}},
		{[]seq.Pair{pair(5, 1), pair(5, 3), pair(5, 2)}, []seq.Pair{pair(5, 2)}},
		{[]seq.Pair{pair(5, 3), pair(5, 2), pair(5, 1)}, []seq.Pair{pair(5, 1)}},
		{[]seq.Pair{pair(5, 1), pair(5, 2), pair(5, 3), pair(3, 4)}, []seq.Pair{pair(3, 4), pair(5, 3)}},
		{[]seq.Pair{pair(5, 3), pair(7, 4), pair(5, 1), pair(3, 4), pair(5, 2)}, []seq.Pair{pair(3, 4), pair(5, 2), pair(7, 4)}},
		{[]seq.Pair{pair(7, 4), pair(5, 3), pair(3, 4), pair(5, 1), pair(1, 1)}, []seq.Pair{pair(1, 1), pair(3, 4), pair(5, 1), pair(7, 4)}},
		{[]seq.Pair{pair(5, 1), pair(3, 1), pair(5, 2), pair(3, 2), pair(5, 3), pair(3, 3)}, []seq.Pair{pair(3, 3), pair(5, 3)}},
		{[]seq.Pair{pair(0, 1), pair(greatest, 1), pair(0, 2), pair(greatest, 0), pair(0, greatest)}, []seq.Pair{pair(0, greatest), pair(greatest, 0)}},
	} {
		wantPairs(t, "Of", seq.Of(x.l...), x.want...)
	}
}

func TestOfManyPairs(t *testing.T) { // P7.1: so many that a sort which isn't stable would mix them
	var l []seq.Pair
	for i, o := range scrambled(3000) {
		l = append(l, pair(o.K%7+uint64(i)*uint64(i)%41, uint64(i)))
		if i%50 == 0 {
			wantPairs(t, "Of many", seq.Of(l...), pairsOf(modelOf(l))...)
		}
	}
}

func TestOfKeepsNothingOfWhatIsGiven(t *testing.T) { // P7.1, R5, R6
	for _, l := range [][]seq.Pair{
		{pair(1, 3), pair(2, 2), pair(3, 1), pair(4, 4)},
		{pair(3, 1), pair(1, 3), pair(3, 2), pair(4, 4)},
		{pair(3, 1), pair(3, 4), pair(3, 2), pair(3, 4)},
	} {
		whole, want := slices.Clone(l), pairsOf(modelOf(l[:3]))
		m := seq.Of(whole[:3]...)
		if !slices.Equal(whole, l) {
			t.Errorf("Of(%v) left %v", l, whole)
		}
		scribblePairs(whole)
		wantPairs(t, "behind writing into what was given", m, want...)
		wantDo(t, m, get(3), had(want[len(want)-1].V), want...)
	}
}

func TestPairsAreTheCallersOwn(t *testing.T) { // P7.1, R6
	for _, l := range lists() {
		m := seq.Of(l...)
		told, other := m.Pairs(), m.Pairs()
		scribblePairs(told)
		if !slices.Equal(other, l) {
			t.Errorf("writing into what Pairs told let what it told ahead be %v; want %v", other, l)
		}
		wantPairs(t, "behind writing into what Pairs told", m, l...)
		_ = append(m.Pairs(), pair(99, 99))
		wantPairs(t, "behind appending to what Pairs told", m, l...)
	}
}

func TestPairsOfTheMapsBehind(t *testing.T) { // P7.1, R6
	for _, l := range lists() {
		for _, o := range ops() {
			m := seq.Of(l...)
			next, _ := m.Do(o)
			behind := next.Pairs()
			scribblePairs(m.Pairs())
			scribblePairs(next.Pairs())
			wantPairs(t, "the map that was asked", m, l...)
			wantPairs(t, "the map behind", next, behind...)
		}
	}
}

func TestSame(t *testing.T) { // P7.1
	full := api.Answer{Full: true, Had: true, Got: 5, Keys: []uint64{1, 2, 3}}
	differ := func(change func(*api.Answer)) api.Answer {
		a := full
		a.Keys = slices.Clone(full.Keys)
		change(&a)
		return a
	}
	answers := []api.Answer{
		{},
		{Full: true},
		{Had: true},
		{Got: 1},
		{Got: greatest},
		{Keys: []uint64{0}},
		{Keys: []uint64{0, 0}},
		{Keys: []uint64{greatest}},
		{Full: true, Had: true},
		full,
		differ(func(a *api.Answer) { a.Full = false }),
		differ(func(a *api.Answer) { a.Had = false }),
		differ(func(a *api.Answer) { a.Got = 4 }),
		differ(func(a *api.Answer) { a.Got = 5 + 1<<63 }),
		differ(func(a *api.Answer) { a.Keys = nil }),
		differ(func(a *api.Answer) { a.Keys = a.Keys[:2] }),
		differ(func(a *api.Answer) { a.Keys = a.Keys[1:] }),
		differ(func(a *api.Answer) { a.Keys = append(a.Keys, 4) }),
		differ(func(a *api.Answer) { a.Keys[0] = 0 }),
		differ(func(a *api.Answer) { a.Keys[1] = 7 }),
		differ(func(a *api.Answer) { a.Keys[2] = 4 }),
		differ(func(a *api.Answer) { slices.Reverse(a.Keys) }),
	}
	for i, a := range answers {
		for j, b := range answers {
			b.Keys = slices.Clone(b.Keys)
			if seq.Same(a, b) != (i == j) {
				t.Errorf("Same(%v, %v): %v; want %v", a, b, i != j, i == j)
			}
		}
	}
	wantFull := api.Answer{Full: true, Had: true, Got: 5, Keys: []uint64{1, 2, 3}}
	if !equal(full, wantFull) {
		t.Errorf("Same left %v; want %v", full, wantFull)
	}
}

func TestSameOfNoKeysAndAnEmptyRow(t *testing.T) { // P7.1, R3
	for _, a := range []api.Answer{{}, {Full: true}, had(5)} {
		no, empty, room := a, a, a
		no.Keys, empty.Keys, room.Keys = nil, []uint64{}, []uint64{7}[:0]
		for _, x := range []api.Answer{no, empty, room} {
			for _, y := range []api.Answer{no, empty, room} {
				if !seq.Same(x, y) {
					t.Errorf("Same(%#v, %#v): false; want true", x, y)
				}
			}
		}
	}
}

func TestGet(t *testing.T) { // P7.2
	wantDo(t, seq.Map{}, get(0), none())
	wantDo(t, seq.Map{}, get(greatest), none())
	one := []seq.Pair{pair(3, 0)}
	for k, a := range map[uint64]api.Answer{2: none(), 3: had(0), 4: none(), 0: none(), greatest: none()} {
		wantDo(t, seq.Of(one...), get(k), a, one...)
	}
	l := []seq.Pair{pair(0, greatest), pair(3, 7), pair(5, 8), pair(greatest, 0)}
	for k, a := range map[uint64]api.Answer{0: had(greatest), 1: none(), 3: had(7), 4: none(), 5: had(8), 6: none(), greatest - 1: none(), greatest: had(0)} {
		wantDo(t, seq.Of(l...), get(k), a, l...)
	}
}

func TestPut(t *testing.T) { // P7.2
	wantDo(t, seq.Map{}, put(5, 7), none(), pair(5, 7))
	wantDo(t, seq.Map{}, put(0, 0), none(), pair(0, 0))
	wantDo(t, seq.Map{}, put(greatest, greatest), none(), pair(greatest, greatest))
	one := seq.Of(pair(3, 7))
	wantDo(t, one, put(3, 8), had(7), pair(3, 8))
	wantDo(t, one, put(3, 7), had(7), pair(3, 7))
	wantDo(t, one, put(0, 1), none(), pair(0, 1), pair(3, 7))
	wantDo(t, one, put(greatest, 1), none(), pair(3, 7), pair(greatest, 1))
	several := seq.Of(pair(2, 7), pair(4, 0), pair(6, greatest))
	for _, x := range []struct {
		o      api.Op
		a      api.Answer
		behind []seq.Pair
	}{
		{put(1, 9), none(), []seq.Pair{pair(1, 9), pair(2, 7), pair(4, 0), pair(6, greatest)}},
		{put(0, 0), none(), []seq.Pair{pair(0, 0), pair(2, 7), pair(4, 0), pair(6, greatest)}},
		{put(2, 9), had(7), []seq.Pair{pair(2, 9), pair(4, 0), pair(6, greatest)}},
		{put(3, 9), none(), []seq.Pair{pair(2, 7), pair(3, 9), pair(4, 0), pair(6, greatest)}},
		{put(4, 9), had(0), []seq.Pair{pair(2, 7), pair(4, 9), pair(6, greatest)}},
		{put(5, greatest), none(), []seq.Pair{pair(2, 7), pair(4, 0), pair(5, greatest), pair(6, greatest)}},
		{put(6, 0), had(greatest), []seq.Pair{pair(2, 7), pair(4, 0), pair(6, 0)}},
		{put(7, 9), none(), []seq.Pair{pair(2, 7), pair(4, 0), pair(6, greatest), pair(7, 9)}},
		{put(greatest, api.MaxValue+1), none(), []seq.Pair{pair(2, 7), pair(4, 0), pair(6, greatest), pair(greatest, api.MaxValue+1)}},
	} {
		for _, tall := range []int{-1, 0, 1, 99} { // how tall a node would be is of no account
			x.o.Tall, x.o.N = tall, tall
			wantDo(t, several, x.o, x.a, x.behind...)
		}
	}
}

func TestDelete(t *testing.T) { // P7.2
	wantDo(t, seq.Map{}, remove(0), none())
	wantDo(t, seq.Map{}, remove(greatest), none())
	wantDo(t, seq.Of(pair(3, 7)), remove(3), had(7))
	wantDo(t, seq.Of(pair(3, 7)), remove(2), none(), pair(3, 7))
	wantDo(t, seq.Of(pair(3, 7)), remove(4), none(), pair(3, 7))
	a, b, c, d := pair(0, greatest), pair(4, 0), pair(6, 9), pair(greatest, 1)
	several := seq.Of(a, b, c, d)
	wantDo(t, several, remove(0), had(greatest), b, c, d)
	wantDo(t, several, remove(4), had(0), a, c, d)
	wantDo(t, several, remove(6), had(9), a, b, d)
	wantDo(t, several, remove(greatest), had(1), a, b, c)
	for _, k := range []uint64{1, 3, 5, 7, greatest - 1} {
		wantDo(t, several, remove(k), none(), a, b, c, d)
	}
	wantDo(t, seq.Of(b, c), remove(3), none(), b, c)
	wantDo(t, seq.Of(b, c), remove(7), none(), b, c)
}

func TestCeiling(t *testing.T) { // P7.2
	wantDo(t, seq.Map{}, ceiling(0), none())
	wantDo(t, seq.Map{}, ceiling(greatest), none())
	one := []seq.Pair{pair(3, 7)}
	for k, a := range map[uint64]api.Answer{0: had(3), 2: had(3), 3: had(3), 4: none(), greatest: none()} {
		wantDo(t, seq.Of(one...), ceiling(k), a, one...)
	}
	l := []seq.Pair{pair(2, 9), pair(5, 8), pair(1<<63, 7)}
	for k, a := range map[uint64]api.Answer{0: had(2), 1: had(2), 2: had(2), 3: had(5), 4: had(5), 5: had(5), 6: had(1 << 63), 1<<63 - 1: had(1 << 63), 1 << 63: had(1 << 63), 1<<63 + 1: none(), greatest: none()} {
		wantDo(t, seq.Of(l...), ceiling(k), a, l...)
	}
	ends := []seq.Pair{pair(0, 5), pair(greatest, 5)}
	for k, a := range map[uint64]api.Answer{0: had(0), 1: had(greatest), greatest: had(greatest)} {
		wantDo(t, seq.Of(ends...), ceiling(k), a, ends...)
	}
}

func TestRange(t *testing.T) { // P7.2
	wantDo(t, seq.Map{}, span(0, greatest, 9), none())
	one := []seq.Pair{pair(3, 7)}
	l := []seq.Pair{pair(0, 9), pair(2, 8), pair(4, 7), pair(6, 6), pair(greatest, 5)}
	for _, x := range []struct {
		l []seq.Pair
		o api.Op
		a api.Answer
	}{
		{one, span(3, 3, 1), keys(3)},
		{one, span(0, greatest, 9), keys(3)},
		{one, span(0, 3, 9), keys(3)},
		{one, span(3, greatest, 9), keys(3)},
		{one, span(0, 2, 9), none()},
		{one, span(4, greatest, 9), none()},
		{l, span(4, 4, 9), keys(4)},
		{l, span(3, 3, 9), none()},
		{l, span(0, 0, 9), keys(0)},
		{l, span(greatest, greatest, 9), keys(greatest)},
		{l, span(greatest-1, greatest-1, 9), none()},
		{l, span(6, 2, 9), none()},
		{l, span(4, 3, 9), none()},
		{l, span(greatest, 0, 9), none()},
		{l, span(7, greatest-1, 9), none()},
		{l, span(3, 3, 9), none()},
		{l, span(2, 6, 9), keys(2, 4, 6)},
		{l, span(1, 7, 9), keys(2, 4, 6)},
		{l, span(3, 6, 9), keys(4, 6)},
		{l, span(2, 5, 9), keys(2, 4)},
		{l, span(0, greatest, 9), keys(0, 2, 4, 6, greatest)},
		{l, span(0, greatest-1, 9), keys(0, 2, 4, 6)},
		{l, span(1, greatest, 9), keys(2, 4, 6, greatest)},
		{l, span(2, 6, 1), keys(2)},
		{l, span(2, 6, 2), keys(2, 4)},
		{l, span(2, 6, 3), keys(2, 4, 6)},
		{l, span(2, 6, 4), keys(2, 4, 6)},
		{l, span(0, greatest, 4), keys(0, 2, 4, 6)},
		{l, span(0, greatest, 5), keys(0, 2, 4, 6, greatest)},
		{l, span(0, greatest, 6), keys(0, 2, 4, 6, greatest)},
		{l, span(0, greatest, math.MaxInt), keys(0, 2, 4, 6, greatest)},
	} {
		wantDo(t, seq.Of(x.l...), x.o, x.a, x.l...)
	}
}

func TestRangeOfNoKeys(t *testing.T) { // P7.2, wrong inputs
	for _, l := range lists() {
		for _, n := range []int{0, -1, -9, math.MinInt} {
			wantDo(t, seq.Of(l...), span(0, greatest, n), none(), l...)
			wantDo(t, seq.Of(l...), span(3, 3, n), none(), l...)
			wantDo(t, seq.Of(l...), span(greatest, 0, n), none(), l...)
		}
	}
}

func TestKindsThatAreNone(t *testing.T) { // P7.2, wrong inputs
	for _, l := range lists() {
		for _, kind := range []int{math.MinInt, -5, -1, 0, 6, 7, 1 << 32, 1<<32 + api.Put, math.MaxInt} {
			for _, k := range edges() {
				wantDo(t, seq.Of(l...), api.Op{Kind: kind, K: k, V: greatest, N: 9, Tall: 1}, none(), l...)
			}
		}
	}
}

func TestAllEdgesOfAllKinds(t *testing.T) { // P7.2
	for _, l := range lists() {
		m := seq.Of(l...)
		for _, o := range ops() {
			behind, a := model(modelOf(l), o)
			wantDo(t, m, o, a, pairsOf(behind)...)
		}
	}
}

func TestOpsOneBehindTheOther(t *testing.T) { // P7.2
	var m seq.Map
	want := map[uint64]uint64{}
	for _, o := range scrambled(5000) {
		var a api.Answer
		want, a = model(want, o)
		m = wantDo(t, m, o, a, pairsOf(want)...)
		if t.Failed() {
			return
		}
	}
}

func TestMapsNeverChange(t *testing.T) { // P7.1, P7.2, R6: whatever is done behind a map, and behind the maps that come of it
	for _, l := range lists() {
		var all []seq.Map
		var was [][]seq.Pair
		keep := func(m seq.Map) seq.Map {
			all, was = append(all, m), append(was, m.Pairs())
			return m
		}
		first := keep(seq.Of(l...))
		for _, o := range scrambled(40) {
			m, _ := first.Do(o)
			keep(m)
			for _, p := range scrambled(40) { // each map goes on in more than one way
				n, _ := m.Do(p)
				keep(n)
			}
		}
		for i, m := range all {
			wantPairs(t, "a map, behind ops of others", m, was[i]...)
		}
	}
}

func TestBranchesOfOneMap(t *testing.T) { // P7.1, P7.2: they share no room behind their ends
	m := seq.Of(pair(1, 1))
	for k := uint64(2); k < 40; k++ {
		l := m.Pairs()
		a, _ := m.Do(put(100, 1))
		b, _ := m.Do(put(200, 2))
		c, _ := m.Do(remove(k - 1))
		d, _ := c.Do(put(300, 3))
		wantPairs(t, "one branch", a, append(slices.Clone(l), pair(100, 1))...)
		wantPairs(t, "another branch", b, append(slices.Clone(l), pair(200, 2))...)
		wantPairs(t, "a shorter branch", c, l[:len(l)-1]...)
		wantPairs(t, "behind the shorter branch", d, append(slices.Clone(l[:len(l)-1]), pair(300, 3))...)
		wantPairs(t, "the map", m, l...)
		m, _ = m.Do(put(k, k))
	}
}

func TestKeysAreTheCallersOwn(t *testing.T) { // P7.2, R6
	for _, l := range lists() {
		m := seq.Of(l...)
		_, first := m.Do(span(0, greatest, 9))
		want := slices.Clone(first.Keys)
		_, other := m.Do(span(0, greatest, 9))
		scribbleKeys(other.Keys)
		if !slices.Equal(first.Keys, want) {
			t.Errorf("writing into Keys let others be %v; want %v", first.Keys, want)
		}
		wantDo(t, m, span(0, greatest, 9), keys(want...), l...)
		next := m
		for _, k := range want {
			next, _ = next.Do(remove(k))
		}
		if !slices.Equal(first.Keys, want) {
			t.Errorf("deleting all keys let Keys be %v; want %v", first.Keys, want)
		}
	}
}

func TestToldPairsStay(t *testing.T) { // P7.1, R6
	for _, l := range lists() {
		m := seq.Of(l...)
		told := m.Pairs()
		for _, o := range ops() {
			m, _ = m.Do(o)
		}
		if !slices.Equal(told, l) {
			t.Errorf("ops let what Pairs told be %v; want %v", told, l)
		}
	}
}

func TestWhatWasPutIsGotAndWhatWasDeletedIsNot(t *testing.T) { // P7.3
	for _, l := range lists() {
		for _, k := range edges() {
			for _, v := range edges() {
				m, _ := seq.Of(l...).Do(put(k, v))
				wantDo(t, m, get(k), had(v), m.Pairs()...)
				wantDo(t, m, ceiling(k), had(k), m.Pairs()...)
				wantDo(t, m, remove(k), had(v), slices.DeleteFunc(m.Pairs(), func(p seq.Pair) bool { return p.K == k })...)
			}
			m, _ := seq.Of(l...).Do(remove(k))
			wantDo(t, m, get(k), none(), m.Pairs()...)
			wantDo(t, m, remove(k), none(), m.Pairs()...)
			wantDo(t, m, span(k, k, 1), none(), m.Pairs()...)
		}
	}
}

func TestNoOpChangesWhatAnotherKeyHas(t *testing.T) { // P7.3
	for _, l := range lists() {
		m := seq.Of(l...)
		for _, o := range ops() {
			next, _ := m.Do(o)
			for _, k := range edges() {
				if k == o.K {
					continue
				}
				_, ahead := m.Do(get(k))
				_, behind := next.Do(get(k))
				if !seq.Same(ahead, behind) {
					t.Errorf("%v of %v: the key %d told %v, and tells %v", o, l, k, ahead, behind)
				}
			}
		}
	}
}

func TestCeilingIsTheFirstKeyOfARange(t *testing.T) { // P7.3
	for _, l := range lists() {
		m := seq.Of(l...)
		for _, k := range edges() {
			_, c := m.Do(ceiling(k))
			for _, n := range []int{1, 2, 9} {
				_, r := m.Do(span(k, greatest, n))
				if c.Had != (len(r.Keys) > 0) || c.Had && c.Got != r.Keys[0] {
					t.Errorf("%v: Ceiling %d tells %v, and the Range from there on %v", l, k, c, r)
				}
			}
		}
	}
}
