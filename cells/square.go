package cells

import "depot/api"

// Square makes each row by itself: rows of one list would share what is written into them, and the rows of the vans are alike.
func (a *Arcs) Square() [][]int {
	sites := a.LineSites()
	rows := make([][]int, len(sites))
	for i := 0; i < len(sites); i++ {
		row := make([]int, len(sites))
		for j := 0; j < len(sites); j++ {
			row[j] = a.cell(sites[i], sites[j])
		}
		rows[i] = row
	}
	return rows
}

// LineSites tells the site of each row, which is that of each column too: the stops, and the depot once for each van.
func (a *Arcs) LineSites() []int {
	var list []int
	for stop := 1; stop < len(a.far); stop++ {
		list = append(list, stop)
	}
	for van := 0; van < a.vans; van++ {
		list = append(list, depot)
	}
	return list
}

func (a *Arcs) cell(from int, to int) int {
	// Ahead of all else: a van may stay at home whatever is forced, and a stop has a way to itself that no van can go.
	if from == depot && to == depot {
		return 0
	}
	if from == to || a.said[from][to] == Barred || a.forcedElsewhere(from, to) {
		return api.None
	}
	return a.far[from][to]
}

// forcedElsewhere tells whether a van that goes from one site to the other would leave out a forced arc: a stop has one arc in and one out, the depot as many as there are vans.
func (a *Arcs) forcedElsewhere(from int, to int) bool {
	for site := 0; site < len(a.far); site++ {
		if from != depot && site != to && a.said[from][site] == Forced {
			return true
		}
		if to != depot && site != from && a.said[site][to] == Forced {
			return true
		}
	}
	return false
}
