// Package assign: the rows of a square of cells get columns of their own, for the least sum.
package assign

import "depot/api"

// Best gives each row a column, and tells the numbers of rows and columns that show that no other choice costs less; or the rows that have too few columns.
func Best(cells [][]int) (api.Match, api.Errno) {
	fault := cellFault(cells)
	if fault != api.OK {
		return api.Match{}, fault
	}
	t := open(cells)
	for row := 0; row < t.side; row++ {
		h := &hunt{root: row}
		end := t.reach(h)
		if end == api.None {
			return api.Match{Rows: t.shortRows(h)}, api.OK
		}
		t.raise(h, h.far[end])
		t.give(h, end)
	}
	return t.match(), api.OK
}

// cellFault looks at the lengths of all rows ahead of any cell: a square that is none is told first.
func cellFault(cells [][]int) api.Errno {
	if len(cells) > api.MaxSide {
		return api.ErrCells
	}
	for i := 0; i < len(cells); i++ {
		if len(cells[i]) != len(cells) {
			return api.ErrCells
		}
	}
	for i := 0; i < len(cells); i++ {
		for j := 0; j < len(cells[i]); j++ {
			if cells[i][j] < api.None || cells[i][j] > api.MaxCost {
				return api.ErrBound
			}
		}
	}
	return api.OK
}
