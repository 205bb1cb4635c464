package hist

import (
	"slices"

	"stepstone/api"
)

// change says that a key is in the map, or is not, from an access on.
type change struct {
	at  int
	has bool
}

// life is the changes of a key, by rising at; of one at the last one counts. So each key is looked at by itself: the maps of all moments would be as many as events, each as great as a map.
type life []change

// Ranges tells whether each Range that is Done told keys that were there while it went on, and left out none that was there all the while.
func Ranges(l []Event) bool {
	lives := livesOf(l)
	right := true
ranges:
	for _, e := range l {
		if !e.isRange() || !e.Done {
			continue
		}
		if e.End < e.Begin || !e.keysFit() {
			right = false
			break ranges
		}
		for _, k := range e.Answer.Keys {
			if some, _ := lives[k].during(e.Begin, e.End); !some {
				right = false
				break ranges
			}
		}
		for k, c := range lives {
			if _, each := c.during(e.Begin, e.End); each && e.leavesOut(k) {
				right = false
				break ranges
			}
		}
	}
	return right
}

// livesOf tells the life of each key that was put or deleted.
func livesOf(l []Event) map[uint64]life {
	lives := map[uint64]life{}
	for _, i := range Order(l) {
		switch o := l[i].Op; o.Kind {
		case api.Put, api.Delete:
			lives[o.K] = append(lives[o.K], change{l[i].At, o.Kind == api.Put})
		}
	}
	return lives
}

// during tells whether the key is in the map at some moment from begin to end, and whether at each. What it has ahead of a change counts only if that change comes at a later access.
func (c life) during(begin, end int) (some, each bool) {
	moment, has := begin, false
	each = true
	for _, x := range c {
		if x.at > end {
			break
		}
		if x.at > moment {
			some, each = some || has, each && has
			moment = x.at
		}
		has = x.has
	}
	return some || has, each && has
}

// keysFit tells whether the Keys of a Range are such as it asked for, whatever the map had.
func (e Event) keysFit() bool {
	keys, o := e.Answer.Keys, e.Op
	if len(keys) > max(o.N, 0) {
		return false
	}
	for i, k := range keys {
		if k < o.K || k > o.V || i > 0 && k <= keys[i-1] {
			return false
		}
	}
	return true
}

// leavesOut tells whether a Range whose Keys fit had to tell k, if it was there all the while, and did not.
func (e Event) leavesOut(k uint64) bool {
	keys, o := e.Answer.Keys, e.Op
	_, told := slices.BinarySearch(keys, k)
	if told || k < o.K || k > o.V || o.N < 1 {
		return false
	}
	return len(keys) < o.N || k < keys[len(keys)-1]
}
