package search

import (
	"depot/api"
	"strconv"
)

// depot is the site where every route begins and ends.
const depot = 0

// tour is a match of the cells of an instance as arcs: each stop is left once and gone to once, and no more vans are out than there are. What it is not by itself is a plan: stops may stand on a ring that no van gets to, and vans may be too full or late.
type tour struct {
	stops  int
	behind [api.MaxStops + 1]int // the site that comes behind each stop
	first  []int                 // the first stop of each van that does not stay at home
}

// tourOf reads a match: the sites of the rows and columns, and the column of each row.
func tourOf(sites []int, column []int) *tour {
	t := &tour{}
	for row := 0; row < len(sites); row++ {
		from := sites[row]
		to := sites[column[row]]
		if from != depot {
			t.stops++
			t.behind[from] = to
		} else if to != depot {
			t.first = append(t.first, to)
		}
	}
	return t
}

// plan writes down the routes of the vans, whether Judge accepts them or not.
func (t *tour) plan() string {
	text := ""
	for i := 0; i < len(t.first); i++ {
		if i > 0 {
			text += "/"
		}
		text += t.route(t.first[i])
	}
	return text
}

func (t *tour) route(first int) string {
	text := ""
	site := first
	for site != depot && len(text) < api.MaxStops {
		text += strconv.Itoa(site)
		site = t.behind[site]
	}
	return text
}

// beginnings are what a chain of the tour can begin with: each stop, and the depot, from which each van goes to a stop of its own.
func (t *tour) beginnings() [][]int {
	var list [][]int
	for stop := 1; stop <= t.stops; stop++ {
		list = append(list, []int{stop})
	}
	for i := 0; i < len(t.first); i++ {
		list = append(list, []int{depot, t.first[i]})
	}
	return list
}
