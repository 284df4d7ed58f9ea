package grounds

import (
	"depot/api"
	"depot/cells"
)

func (w *walk) leafHolds(n api.Node) bool {
	switch n.Kind {
	case api.Duals:
		return w.dualsHold(n.List)
	case api.Hall:
		return w.hallHolds(n.List)
	case api.Chain:
		return w.chainHolds(n.List)
	}
	return false
}

// dualsHold tells whether no choice of open cells costs less than the plan: it costs at least all the numbers together, for each row and each column is in it once.
func (w *walk) dualsHold(list []int) bool {
	rows := w.place.Arcs.Square()
	side := len(rows)
	if !w.plan || len(list) != 2*side || sum(list) < w.cost {
		return false
	}
	for i := 0; i < side; i++ {
		for j := 0; j < side; j++ {
			if rows[i][j] != api.None && list[i]+list[side+j] > rows[i][j] {
				return false
			}
		}
	}
	return true
}

func sum(list []int) int {
	total := 0
	for i := 0; i < len(list); i++ {
		total += list[i]
	}
	return total
}

// hallHolds tells whether the rows of the list have too few columns to get one each.
func (w *walk) hallHolds(list []int) bool {
	rows := w.place.Arcs.Square()
	for i := 0; i < len(list); i++ {
		if list[i] < 0 || list[i] >= len(rows) {
			return false
		}
		if i > 0 && list[i] <= list[i-1] {
			return false
		}
	}
	columns := 0
	for column := 0; column < len(rows); column++ {
		if opens(rows, list, column) {
			columns++
		}
	}
	return columns < len(list)
}

// opens tells whether one of the rows of the list has an open cell in a column.
func opens(rows [][]int, list []int, column int) bool {
	for i := 0; i < len(list); i++ {
		if rows[list[i]][column] != api.None {
			return true
		}
	}
	return false
}

// chainHolds tells whether some van has to go along the sites of the list, and none can.
func (w *walk) chainHolds(list []int) bool {
	for i := 1; i < len(list); i++ {
		if w.place.Arcs.Said(list[i-1], list[i]) != cells.Forced {
			return false
		}
	}
	return w.area.Blocked(list)
}
