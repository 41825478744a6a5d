package box

import (
	"slices"

	"cincture/rat"
	"cincture/span"
)

// Covers tells whether each point of b is in one of l.
//
// Each box has its edges too, so what a list of boxes leaves of b, if anything, has points that lie on no edge at all.
// It is enough to ask for those: for the cells of a grid whose lines are all the edges.
func Covers(b Box, l []Box) bool {
	if !Right(b) {
		return false
	}
	l = meeting(b, l)
	g := grid{blocks: make([]block, len(l))}
	for i := range g.size {
		if i < len(b) {
			g.lay(i, b[i], l)
		} else {
			g.layFlat(i)
		}
	}
	return g.full()
}

// meeting is those of l that have something of b's inside; b is Right.
func meeting(b Box, l []Box) []Box {
	var out []Box
	for _, x := range l {
		if len(x) == len(b) && Right(x) && bySides(x, b, overlap) {
			out = append(out, x)
		}
	}
	return out
}

// lay lays side i of the grid out, which is to be side, and that of each block, which is to be what it has of the box of l at its place.
func (g *grid) lay(i int, side span.Span, l []Box) {
	lines := []rat.Rat{side.Lo, side.Hi}
	for _, x := range l {
		for _, end := range []rat.Rat{x[i].Lo, x[i].Hi} {
			if span.Has(side, end) {
				lines = append(lines, end)
			}
		}
	}
	slices.SortFunc(lines, rat.Cmp)
	lines = slices.CompactFunc(lines, func(a, b rat.Rat) bool { return rat.Cmp(a, b) == 0 })
	last := len(lines) - 1
	g.size[i] = last
	for k, x := range l {
		g.blocks[k].lo[i], _ = slices.BinarySearchFunc(lines, x[i].Lo, rat.Cmp)
		high, _ := slices.BinarySearchFunc(lines, x[i].Hi, rat.Cmp)
		g.blocks[k].hi[i] = min(high, last) // beyond the grid's end there is no line
	}
}

// layFlat lays out a side that the boxes do not have: one cell, which each block has.
func (g *grid) layFlat(i int) {
	g.size[i] = 1
	for k := range g.blocks {
		g.blocks[k].hi[i] = 1
	}
}
