package mem

import (
	"stepstone/api"
	"stepstone/handle"
	"stepstone/plan"
)

// layout tells the cells in which a world's words stand, -1 for what there is not.
type layout struct{ config api.Config }

// Config tells how great the world is.
func (l layout) Config() api.Config { return l.config }

func (l layout) clock() int { return 0 }

func (l layout) reservation(thread, slot int) int {
	return plan.Reserved(l.config, thread, slot)
}

func (l layout) meta(index int) int { return plan.Cell(l.config, index, plan.Meta) }

// named asks nothing of h but its index: which generation its slot is in is for callers to know.
func (l layout) named(h uint64, field int) int {
	return plan.Cell(l.config, handle.Index(h), field)
}
