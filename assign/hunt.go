package assign

import "depot/api"

// hunt seeks a column for a row that has none: one that is free, or the column of a row that can be given another, and so on. A cell is as far away as it lies above u and v, so no step goes below 0.
type hunt struct {
	root int
	far  [api.MaxSide]int  // how far the column is, or None while no way to it is known
	from [api.MaxSide]int  // the column of the row whose cell leads there, or None if that row is the root
	done [api.MaxSide]bool // no shorter way is left to be found
}

// reach tells the free column that is nearest, or None if there is no way to one.
func (t *table) reach(h *hunt) int {
	for column := 0; column < t.side; column++ {
		h.far[column] = api.None
	}
	t.spread(h, h.root, api.None, 0)
	column := t.nearest(h)
	// This ends: every round is done with one more column.
	for column != api.None {
		h.done[column] = true
		if t.owner[column] == api.None {
			return column
		}
		t.spread(h, t.owner[column], column, h.far[column])
		column = t.nearest(h)
	}
	return api.None
}

// spread goes on from a row, which is start away, to the columns of its open cells.
func (t *table) spread(h *hunt, row int, from int, start int) {
	for column := 0; column < t.side; column++ {
		if h.done[column] || t.cells[row][column] == api.None {
			continue
		}
		far := start + t.cells[row][column] - t.u[row] - t.v[column]
		if h.far[column] == api.None || far < h.far[column] {
			h.far[column] = far
			h.from[column] = from
		}
	}
}

// nearest tells the nearest of the columns that are not done, or None if no way is known to one.
func (t *table) nearest(h *hunt) int {
	best := api.None
	for column := 0; column < t.side; column++ {
		if h.done[column] || h.far[column] == api.None {
			continue
		}
		if best == api.None || h.far[column] < h.far[best] {
			best = column
		}
	}
	return best
}

// shortRows tells the rows of a hunt that found no free column: the root and the owners of the columns reached. All their open cells stand in those columns, which are one fewer.
func (t *table) shortRows(h *hunt) []int {
	var short [api.MaxSide]bool
	short[h.root] = true
	for column := 0; column < t.side; column++ {
		if h.done[column] {
			short[t.owner[column]] = true
		}
	}
	var rows []int
	for row := 0; row < t.side; row++ {
		if short[row] {
			rows = append(rows, row)
		}
	}
	return rows
}
