// Package handle is layer 1, the words that name nodes: see shared/doc/01-handle.md.
package handle

import (
	"math/bits"

	"stepstone/api"
)

// The parts of a word, in the order in which they stand in it, from its lowest bit on.
const (
	indexPart = iota
	genPart
	markPart
	namesPart
	partCount
)

type parts [partCount]uint64

// greatest also tells how wide a part is: all bits of its greatest number are set.
var greatest = parts{1<<32 - 1, api.MaxLast, 1, 1}

// Pack tells the word that names a node of that index, generation and mark, and whether there is one.
func Pack(index, gen int, mark bool) (uint64, bool) {
	p := parts{indexPart: uint64(index), genPart: uint64(gen), namesPart: 1}
	if mark {
		p[markPart] = 1
	}
	w := join(p)
	// A number below 0, or beyond its part's greatest, is never what is taken out of that part again.
	if split(w) != p {
		return 0, false
	}
	return w, true
}

// Valid tells whether w names a node.
func Valid(w uint64) bool { return split(w)[namesPart] == 1 }

// Marked tells whether w has the mark, though it may name no node.
func Marked(w uint64) bool { return split(w)[markPart] == 1 }

// Index tells the index of w, though it may name no node.
func Index(w uint64) int { return int(split(w)[indexPart]) }

// Gen tells the generation of w, though it may name no node.
func Gen(w uint64) int { return int(split(w)[genPart]) }

// Mark tells w with the mark.
func Mark(w uint64) uint64 { return withMark(w, 1) }

// Plain tells w without the mark.
func Plain(w uint64) uint64 { return withMark(w, 0) }

func withMark(w, mark uint64) uint64 {
	p := split(w)
	p[markPart] = mark
	return join(p)
}

// split is what join undoes: every word has parts, and comes back from them.
func split(w uint64) parts {
	take := func(most uint64) uint64 {
		part := w & most
		w >>= bits.Len64(most)
		return part
	}
	var p parts
	for i, most := range greatest {
		p[i] = take(most)
	}
	return p
}

func join(p parts) uint64 {
	var w uint64
	for i := partCount - 1; i >= 0; i-- {
		w = w<<bits.Len64(greatest[i]) | p[i]
	}
	return w
}
