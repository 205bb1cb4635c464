package hist_test

import (
	"math"
	"testing"

	"stepstone/api"
	"stepstone/hist"
)

// told is a Range from the access 10 on until 20.
func told(o api.Op, l ...uint64) hist.Event { return done(o, keys(l...), 10, 0, 20) }

// there has keys that are in the map all the while.
func there(l ...uint64) []hist.Event {
	var all []hist.Event
	for i, k := range l {
		all = append(all, goesOn(put(k, 0), 1, 1+i))
	}
	return all
}

func with(l []hist.Event, more ...hist.Event) []hist.Event {
	return append(l[:len(l):len(l)], more...)
}

func TestRangesOfNone(t *testing.T) { // P8.3
	wantRanges(t, "no events", true)
	wantRanges(t, "no Ranges", true, there(1, 2)...)
	wantRanges(t, "no Ranges, whatever others tell", true, done(get(1), keys(3, 2, 1), 9, 1, 2), done(put(1, 1), full(), 9, 1, 2), done(get(1), had(9), 1, 0, 2))
	wantRanges(t, "nothing there", true, told(span(0, 9, 9)))
	wantRanges(t, "nothing there, and one told", false, told(span(0, 9, 9), 5))
}

func TestRangesThatGoOn(t *testing.T) { // P8.3
	for _, e := range []hist.Event{
		told(span(0, 9, 9), 9, 1), told(span(0, 9, 9), 5), told(span(0, 9, 9)), told(span(0, 9, 0), 1, 2), done(span(0, 9, 9), none(), 10, 0, 9),
	} {
		l := there(1, 2)
		wantRanges(t, "Done", false, with(l, e)...)
		e.Done = false
		wantRanges(t, "goes on", true, with(l, e)...)
		e.At = 3
		wantRanges(t, "goes on, with an At", true, with(l, e)...)
	}
}

func TestRangesLookAtEachOne(t *testing.T) { // P8.3
	l := there(1, 2)
	good, bad := told(span(0, 9, 9), 1, 2), told(span(0, 9, 9), 1)
	wantRanges(t, "two good ones", true, with(l, good, good)...)
	wantRanges(t, "the first is bad", false, with(l, bad, good)...)
	wantRanges(t, "the last is bad", false, with(l, good, bad)...)
	wantRanges(t, "one between is bad", false, with(l, good, bad, good)...)
	wantRanges(t, "told ahead of what happened", true, with([]hist.Event{good}, l...)...)
	wantRanges(t, "told ahead of what happened", false, with([]hist.Event{bad}, l...)...)
	for _, at := range []int{-1, 0, 1, 10, 15, 99} { // of no account
		good.At, bad.At = at, at
		wantRanges(t, "with an At", true, with(l, good)...)
		wantRanges(t, "with an At", false, with(l, bad)...)
	}
}

func TestRangesKeysRise(t *testing.T) { // P8.3
	l := there(1, 2, 3)
	wantRanges(t, "rising", true, with(l, told(span(0, 9, 9), 1, 2, 3))...)
	wantRanges(t, "falling", false, with(l, told(span(0, 9, 9), 3, 2, 1))...)
	wantRanges(t, "falling at the end", false, with(l, told(span(0, 9, 9), 1, 3, 2))...)
	wantRanges(t, "falling at the beginning", false, with(l, told(span(0, 9, 9), 2, 1, 3))...)
	wantRanges(t, "one twice", false, with(l, told(span(0, 9, 9), 1, 2, 2, 3))...)
	wantRanges(t, "the first twice", false, with(l, told(span(0, 9, 9), 1, 1, 2, 3))...)
	wantRanges(t, "one twice, and N", false, with(l, told(span(0, 9, 4), 1, 2, 3, 3))...)
	great := there(0, 1<<63-1, 1<<63, greatest)
	wantRanges(t, "by number", true, with(great, told(span(0, greatest, 9), 0, 1<<63-1, 1<<63, greatest))...)
	wantRanges(t, "by sign", false, with(great, told(span(0, greatest, 9), 1<<63, greatest, 0, 1<<63-1))...)
}

func TestRangesKeysAreFromKToV(t *testing.T) { // P8.3
	l := there(2, 3, 4, 5, 6)
	wantRanges(t, "from K to V", true, with(l, told(span(3, 5, 9), 3, 4, 5))...)
	wantRanges(t, "one below K", false, with(l, told(span(3, 5, 9), 2, 3, 4, 5))...)
	wantRanges(t, "one above V", false, with(l, told(span(3, 5, 9), 3, 4, 5, 6))...)
	wantRanges(t, "K is left out", false, with(l, told(span(3, 5, 9), 4, 5))...)
	wantRanges(t, "V is left out", false, with(l, told(span(3, 5, 9), 3, 4))...)
	wantRanges(t, "one key", true, with(l, told(span(4, 4, 9), 4))...)
	wantRanges(t, "one key, left out", false, with(l, told(span(4, 4, 9)))...)
	wantRanges(t, "between keys", true, with(l, told(span(7, 9, 9)))...)
	ends := there(0, greatest)
	wantRanges(t, "both ends", true, with(ends, told(span(0, greatest, 9), 0, greatest))...)
	wantRanges(t, "without the least", true, with(ends, told(span(1, greatest, 9), greatest))...)
	wantRanges(t, "without the greatest", true, with(ends, told(span(0, greatest-1, 9), 0))...)
	wantRanges(t, "the greatest is left out", false, with(ends, told(span(0, greatest, 9), 0))...)
	wantRanges(t, "the least is left out", false, with(ends, told(span(0, greatest, 9), greatest))...)
}

func TestRangesOfKAboveV(t *testing.T) { // P8.3, wrong inputs
	l := there(2, 3, 4)
	wantRanges(t, "nothing told", true, with(l, told(span(4, 2, 9)))...)
	wantRanges(t, "nothing told", true, with(l, told(span(3, 2, 9)))...)
	wantRanges(t, "nothing told", true, with(l, told(span(greatest, 0, 9)))...)
	wantRanges(t, "nothing told, of no keys", true, with(l, told(span(4, 2, 0)))...)
	for k := uint64(2); k <= 4; k++ {
		wantRanges(t, "one told", false, with(l, told(span(4, 2, 9), k))...)
	}
	wantRanges(t, "End below Begin", false, with(l, done(span(4, 2, 9), none(), 10, 0, 9))...)
}

func TestRangesOfN(t *testing.T) { // P8.3
	l := there(1, 2, 3, 4)
	all := []uint64{1, 2, 3, 4}
	for n := -2; n <= 6; n++ {
		for count := 0; count <= 4; count++ {
			want := count == min(max(n, 0), 4)
			wantRanges(t, "the first ones", want, with(l, told(span(0, 9, n), all[:count]...))...)
		}
	}
	for _, n := range []int{0, -1, math.MinInt} {
		wantRanges(t, "none, of at most 0", true, with(l, told(span(0, 9, n)))...)
		wantRanges(t, "one, of at most 0", false, with(l, told(span(0, 9, n), 1))...)
		wantRanges(t, "all, of at most 0", false, with(l, told(span(0, 9, n), all...))...)
	}
	wantRanges(t, "all, of any number", true, with(l, told(span(0, 9, math.MaxInt), all...))...)
	wantRanges(t, "all but one, of any number", false, with(l, told(span(0, 9, math.MaxInt), all[:3]...))...)
}

func TestRangesLeaveNoneOut(t *testing.T) { // P8.3
	l := there(1, 3, 5, 7)
	for _, x := range []struct {
		n    int
		keys []uint64
		is   bool
	}{
		{9, []uint64{1, 3, 5, 7}, true},
		{9, []uint64{3, 5, 7}, false}, {9, []uint64{1, 5, 7}, false}, {9, []uint64{1, 3, 5}, false}, {9, nil, false},
		{4, []uint64{1, 3, 5, 7}, true}, {4, []uint64{1, 3, 5}, false}, {4, []uint64{1, 3, 7}, false},
		{3, []uint64{1, 3, 5}, true}, {3, []uint64{1, 3, 7}, false}, {3, []uint64{1, 5, 7}, false}, {3, []uint64{3, 5, 7}, false},
		{2, []uint64{1, 3}, true}, {2, []uint64{1, 7}, false}, {2, []uint64{3, 5}, false}, {2, []uint64{1}, false},
		{1, []uint64{1}, true}, {1, []uint64{3}, false}, {1, []uint64{7}, false}, {1, nil, false},
		{0, nil, true}, {-1, nil, true},
	} {
		wantRanges(t, "keys that are there all the while", x.is, with(l, told(span(0, 9, x.n), x.keys...))...)
	}
	// 4 comes and goes meanwhile: it may be told or not, and counts among N
	l = with(l, goesOn(put(4, 0), 1, 14), goesOn(remove(4), 1, 16))
	for _, x := range []struct {
		n    int
		keys []uint64
		is   bool
	}{
		{9, []uint64{1, 3, 4, 5, 7}, true}, {9, []uint64{1, 3, 5, 7}, true}, {9, []uint64{1, 3, 4, 7}, false},
		{3, []uint64{1, 3, 4}, true}, {3, []uint64{1, 3, 5}, true}, {3, []uint64{1, 4, 5}, false}, {3, []uint64{3, 4, 5}, false},
		{2, []uint64{1, 4}, false}, {1, []uint64{4}, false}, {4, []uint64{1, 3, 4, 5}, true}, {4, []uint64{1, 3, 4, 7}, false}, {5, []uint64{1, 3, 4, 5}, false},
	} {
		wantRanges(t, "with one that comes and goes", x.is, with(l, told(span(0, 9, x.n), x.keys...))...)
	}
}

// spell has the key 5 in the map from one access until just ahead of another one.
func spell(from, until int) []hist.Event {
	return []hist.Event{goesOn(put(5, 0), 1, from), goesOn(remove(5), 1, until)}
}

func TestRangesKeyOfSomeMoments(t *testing.T) { // P8.3: Begin is 10, End 20
	for _, x := range []struct {
		from, until  int
		some, always bool
	}{
		{9, 10, false, false}, {1, 10, false, false}, {1, 9, false, false}, {1, 2, false, false},
		{10, 11, true, false}, {9, 11, true, false}, {1, 11, true, false},
		{15, 16, true, false}, {11, 12, true, false}, {11, 20, true, false}, {19, 20, true, false},
		{20, 21, true, false}, {20, 99, true, false}, {11, 21, true, false}, {11, 99, true, false},
		{21, 22, false, false}, {21, 99, false, false}, {22, 23, false, false},
		{10, 20, true, false}, {9, 20, true, false}, {1, 20, true, false},
		{10, 21, true, true}, {9, 21, true, true}, {1, 21, true, true}, {1, 22, true, true}, {10, math.MaxInt, true, true},
	} {
		l := spell(x.from, x.until)
		wantRanges(t, "told", x.some, with(l, told(span(0, 9, 9), 5))...)
		wantRanges(t, "told, of one key", x.some, with(l, told(span(5, 5, 1), 5))...)
		wantRanges(t, "not told", !x.always, with(l, told(span(0, 9, 9)))...)
		wantRanges(t, "not told, and of others", true, with(l, told(span(6, 9, 9)), told(span(0, 4, 9)))...)
		wantRanges(t, "not told, of no keys", true, with(l, told(span(0, 9, 0)))...)
	}
}

func TestRangesKeyThatIsAwayMeanwhile(t *testing.T) { // P8.3
	for _, x := range []struct {
		from, until int
		always      bool
	}{{10, 11, false}, {15, 16, false}, {20, 21, false}, {9, 11, false}, {20, 99, false}, {9, 10, true}, {21, 22, true}, {2, 9, true}} {
		l := append(there(5), goesOn(remove(5), 1, x.from), goesOn(put(5, 1), 1, x.until))
		wantRanges(t, "told", true, with(l, told(span(0, 9, 9), 5))...)
		wantRanges(t, "not told", !x.always, with(l, told(span(0, 9, 9)))...)
	}
	l := append(there(5), goesOn(put(5, 1), 1, 15), goesOn(put(5, 2), 1, 16), goesOn(get(5), 1, 17), goesOn(remove(6), 1, 18))
	wantRanges(t, "put again, it is not away", false, with(l, told(span(0, 9, 9)))...)
}

func TestRangesOfOneMoment(t *testing.T) { // P8.3: Begin = End
	for at := 8; at <= 12; at++ {
		l := spell(10, 11)
		wantRanges(t, "told", at == 10, with(l, done(span(0, 9, 9), keys(5), at, 0, at))...)
		wantRanges(t, "not told", at != 10, with(l, done(span(0, 9, 9), none(), at, 0, at))...)
	}
}

func TestRangesOfOneAt(t *testing.T) { // P8.3: there is no moment between two events of one At
	for _, at := range []int{10, 15, 20} {
		l := spell(at, at)
		wantRanges(t, "put and deleted at once, told", false, with(l, told(span(0, 9, 9), 5))...)
		wantRanges(t, "put and deleted at once", true, with(l, told(span(0, 9, 9)))...)
		l = append(there(5), goesOn(remove(5), 1, at), goesOn(put(5, 1), 1, at))
		wantRanges(t, "deleted and put at once, told", true, with(l, told(span(0, 9, 9), 5))...)
		wantRanges(t, "deleted and put at once", false, with(l, told(span(0, 9, 9)))...)
	}
}

func TestRangesCountWhatHappened(t *testing.T) { // P8.3
	for _, e := range []hist.Event{
		done(put(5, 0), full(), 1, 2, 3), goesOn(put(5, 0), 1, 0), goesOn(put(5, 0), 1, -1), done(put(5, 0), none(), 1, 0, 3),
		goesOn(get(5), 1, 2), goesOn(odd(6), 1, 2), goesOn(ceiling(5), 1, 2), goesOn(span(5, 5, 1), 1, 2),
	} {
		wantRanges(t, "nothing was put", true, e, told(span(0, 9, 9)))
		wantRanges(t, "nothing was put, and one told", false, e, told(span(0, 9, 9), 5))
	}
	going := goesOn(put(5, 0), 1, 2)
	going.Answer = full()
	for _, e := range []hist.Event{done(put(5, 0), none(), 1, 2, 3), done(put(5, 0), had(9), 9, 2, 1), going} {
		wantRanges(t, "it was put", false, e, told(span(0, 9, 9)))
		wantRanges(t, "it was put, and told", true, e, told(span(0, 9, 9), 5))
	}
}

func TestRangesEndBelowBegin(t *testing.T) { // P8.3
	l := there(1)
	for _, o := range []api.Op{span(0, 9, 9), span(0, 9, 0), span(9, 0, 9), span(2, 9, 9)} {
		for _, end := range []int{9, 0, -1, math.MinInt} {
			wantRanges(t, "End below Begin", false, with(l, done(o, none(), 10, 0, end))...)
			wantRanges(t, "End below Begin, and keys", false, with(l, done(o, keys(1), 10, 0, end))...)
			wantRanges(t, "End below Begin, no events", false, done(o, none(), 10, 0, end))
		}
	}
}

func TestRangesOfFarMoments(t *testing.T) { // P8.3, R1: as many moments as there are numbers
	l := there(5)
	for _, x := range []struct {
		begin, end   int
		some, always bool
	}{
		{math.MinInt, math.MaxInt, true, false}, {0, math.MaxInt, true, false}, {1, math.MaxInt, true, true}, {math.MinInt, 1, true, false},
		{math.MinInt, 0, false, false}, {-5, -3, false, false}, {0, 0, false, false}, {math.MinInt, math.MinInt, false, false}, {math.MaxInt, math.MaxInt, true, true},
	} {
		wantRanges(t, "told", x.some, with(l, done(span(0, 9, 9), keys(5), x.begin, 0, x.end))...)
		wantRanges(t, "not told", !x.always, with(l, done(span(0, 9, 9), none(), x.begin, 0, x.end))...)
	}
}

func TestRangesOfManyEvents(t *testing.T) { // P8.3, R1: it ends soon, however many keys and Ranges there are
	var l []hist.Event
	var all []uint64
	for k := range uint64(3000) {
		all = append(all, k)
		l = append(l, goesOn(put(k, k), 1, int(k)+1))
	}
	for range 100 {
		l = append(l, done(span(0, greatest, 5000), keys(all...), 1, 0, 4000))
	}
	wantRanges(t, "all told", true, l...)
	wantRanges(t, "one never there", false, with(l, done(span(0, greatest, 5000), keys(append(all[:3000:3000], 3000)...), 1, 0, 4000))...)
	wantRanges(t, "one left out", false, with(l, done(span(0, greatest, 5000), keys(all[1:]...), 1, 0, 4000))...)
}
