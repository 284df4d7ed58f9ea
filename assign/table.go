package assign

import "depot/api"

// table holds a square of cells and what is known of it. At any time u of a row and v of a column together are not above an open cell, and are as much as the cell where the row has the column. So the rows that have columns have them for the least sum.
//
// No v is ever above 0; a row without a column keeps the u 0, and a column without a row the v 0. So a hunt, which goes from such a row to such a column, goes no further than MaxSide cells together, and in all MaxSide hunts no u or v gets further than MaxSide * MaxSide * MaxCost from 0, which is below MaxDual.
type table struct {
	side  int
	cells [][]int
	u     [api.MaxSide]int
	v     [api.MaxSide]int
	owner [api.MaxSide]int // the row that has the column, or None
}

// open begins with a table where no row has a column; the cells are without fault.
func open(cells [][]int) *table {
	t := &table{side: len(cells), cells: cells}
	for column := 0; column < t.side; column++ {
		t.owner[column] = api.None
	}
	return t
}

// raise changes u and v by as much as a column that was reached lies nearer than the end of the hunt: along the way to the end no cell is then above u and v.
func (t *table) raise(h *hunt, end int) {
	t.u[h.root] += end
	for column := 0; column < t.side; column++ {
		if h.done[column] && t.owner[column] != api.None {
			t.u[t.owner[column]] += end - h.far[column]
			t.v[column] -= end - h.far[column]
		}
	}
}

// give hands the end of a hunt to the row that leads there, that row's column to the row ahead of it, and so on, up to the root, which had none.
func (t *table) give(h *hunt, end int) {
	column := end
	for h.from[column] != api.None {
		t.owner[column] = t.owner[h.from[column]]
		column = h.from[column]
	}
	t.owner[column] = h.root
}

// match tells what the table holds when every column has its row.
func (t *table) match() api.Match {
	m := api.Match{
		Whole:  true,
		Column: make([]int, t.side),
		U:      make([]int, t.side),
		V:      make([]int, t.side),
	}
	for column := 0; column < t.side; column++ {
		row := t.owner[column]
		m.Column[row] = column
		m.Cost += t.cells[row][column]
		m.U[row] = t.u[row]
		m.V[column] = t.v[column]
	}
	return m
}
