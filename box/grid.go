package box

import "cincture/api"

// few is how many cells are gone through one by one; a grid that has more is cut.
const few = 64

// cell is a place in a grid, by its three numbers.
type cell [api.MaxVars]int

// block is all cells from lo on to those below hi, side by side.
type block struct {
	lo, hi cell
}

// grid is the cells from 0 on to those below size, and blocks of them.
type grid struct {
	size   cell
	blocks []block
}

// full tells whether each cell is in a block.
//
// The number of cells may go with the third power of that of the blocks, so they are not gone through as they are:
// what is simple is taken away, and the rest cut in two, again and again. A block is looked at only where one of its edges is.
func (g grid) full() bool {
	g = g.strip().pack()
	if g.cells() <= few {
		return g.fullByCells()
	}
	i, at := g.middle()
	return g.below(i, at).full() && g.above(i, at).full()
}

// cells tells how many cells there are, or, if they are more than few, some number above that.
func (g grid) cells() int {
	n := 1
	for _, s := range g.size {
		n = min(n*s, few+1)
	}
	return n
}

// fullByCells is full, cell by cell.
func (g grid) fullByCells() bool {
	filled := map[cell]struct{}{}
	for _, b := range g.blocks {
		for x := b.lo[0]; x < b.hi[0]; x++ {
			for y := b.lo[1]; y < b.hi[1]; y++ {
				for z := b.lo[2]; z < b.hi[2]; z++ {
					filled[cell{x, y, z}] = struct{}{}
				}
			}
		}
	}
	return len(filled) == g.cells()
}

// strip takes the layers of cells away that are filled by blocks that go right through the grid on all sides but one.
// Nothing in such a layer is left to ask for.
func (g grid) strip() grid {
	var places [api.MaxVars][]int
	for i, size := range g.size {
		deep := make([]int, size+1) // how many blocks begin at a line, less those that end there
		for _, b := range g.blocks {
			if g.through(b, i) {
				deep[b.lo[i]]++
				deep[b.hi[i]]--
			}
		}
		places[i] = openLayers(deep)
	}
	return g.renumber(places)
}

// through tells whether b goes right through the grid on all sides but i.
func (g grid) through(b block, i int) bool {
	b.lo[i], b.hi[i] = 0, g.size[i]
	return b == block{hi: g.size}
}

// openLayers tells of each line how many layers ahead of it no block fills.
func openLayers(deep []int) []int {
	places := make([]int, len(deep))
	now, open := 0, 0
	for at, more := range deep {
		places[at] = open
		now += more
		if now == 0 {
			open++
		}
	}
	return places
}

// pack takes the lines away at which no block begins or ends, so that there are never many more lines than blocks.
func (g grid) pack() grid {
	var places [api.MaxVars][]int
	for i, size := range g.size {
		used := make([]int, size+1)
		for _, b := range g.blocks {
			used[b.lo[i]], used[b.hi[i]] = 1, 1
		}
		used[size] = 1
		used[0] = 0 // behind the last: of a side without cells it is the first as well
		for at := range size {
			used[at+1] += used[at]
		}
		places[i] = used
	}
	return g.renumber(places)
}

// renumber brings each line to its new place; blocks that have nothing any more go.
func (g grid) renumber(places [api.MaxVars][]int) grid {
	move := func(c cell) cell {
		for i := range c {
			c[i] = places[i][c[i]]
		}
		return c
	}
	out := grid{size: move(g.size)}
	for _, b := range g.blocks {
		out.keep(block{move(b.lo), move(b.hi)})
	}
	return out
}

// keep adds b to the blocks, if it has a cell.
func (g *grid) keep(b block) {
	for i := range b.lo {
		if b.lo[i] >= b.hi[i] {
			return
		}
	}
	g.blocks = append(g.blocks, b)
}

// middle tells the side on which most blocks begin or end inside the grid, and the line on it that has half of that on either hand.
// There is such a line: of a side with more than one cell some block begins or ends at each line inside.
func (g grid) middle() (int, int) {
	best, at, most := 0, 0, 0
	for i, size := range g.size {
		ends := make([]int, size+1)
		sum := 0
		for _, b := range g.blocks {
			for _, end := range [2]int{b.lo[i], b.hi[i]} {
				if end > 0 && end < size {
					ends[end]++
					sum++
				}
			}
		}
		if sum > most {
			best, at, most = i, half(ends, sum), sum
		}
	}
	return best, at
}

// half is the first place up to which l comes to half of sum, which all of it comes to.
func half(l []int, sum int) int {
	for at, more := range l {
		sum -= 2 * more
		if sum <= 0 {
			return at
		}
	}
	return 0
}

// below is what lies ahead of a line of side i.
func (g grid) below(i, at int) grid {
	out := grid{size: g.size}
	out.size[i] = at
	for _, b := range g.blocks {
		b.hi[i] = min(b.hi[i], at)
		out.keep(b)
	}
	return out
}

// above is what lies behind a line of side i.
func (g grid) above(i, at int) grid {
	out := grid{size: g.size}
	out.size[i] -= at
	for _, b := range g.blocks {
		b.lo[i], b.hi[i] = max(b.lo[i]-at, 0), b.hi[i]-at
		out.keep(b)
	}
	return out
}
