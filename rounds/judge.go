package rounds

import "depot/api"

// Judge tells what a plan costs and the start at each stop.
func (a *Area) Judge(plan string) (int, []int, api.Errno) {
	fault := textFault(plan, len(a.x.Stops))
	if fault != api.OK {
		return 0, nil, fault
	}
	list := routes(plan)
	if len(list) > a.x.Vans {
		return 0, nil, api.ErrVans
	}
	// Each fault is sought on all routes ahead of the next one: an early route that is late does not hide a later one that has no way.
	if !a.allLoad(list) {
		return 0, nil, api.ErrLoad
	}
	if !a.allHaveWays(list) {
		return 0, nil, api.ErrRoad
	}
	starts := make([]int, len(a.x.Stops))
	if !a.allInTime(list, starts) {
		return 0, nil, api.ErrLate
	}
	return a.length(list), starts, api.OK
}

// allLoad tells whether each route's wants fit into one van.
func (a *Area) allLoad(list [][]int) bool {
	for i := 0; i < len(list); i++ {
		sum := 0
		for k := 0; k < len(list[i]); k++ {
			site := list[i][k]
			if site != depot {
				sum += a.x.Stops[site-1].Want
			}
		}
		if sum > a.x.Load {
			return false
		}
	}
	return true
}

func (a *Area) allHaveWays(list [][]int) bool {
	for i := 0; i < len(list); i++ {
		for k := 1; k < len(list[i]); k++ {
			if a.far[list[i][k-1]][list[i][k]] == api.None {
				return false
			}
		}
	}
	return true
}

// allInTime tells whether no van is late, and writes down the starts.
func (a *Area) allInTime(list [][]int, starts []int) bool {
	for i := 0; i < len(list); i++ {
		if !a.inTime(list[i], starts) {
			return false
		}
	}
	return true
}

// inTime tells whether a van that goes along the sites is nowhere late, and writes down the starts. It is at the first site at 0: the depot is left then, and at a stop, where a piece of a route may begin, the start is From, which no van is ahead of.
func (a *Area) inTime(sites []int, starts []int) bool {
	time := 0
	for k := 0; k < len(sites); k++ {
		site := sites[k]
		if k > 0 {
			time += a.far[sites[k-1]][site]
		}
		if site == depot {
			if time > a.x.Close {
				return false
			}
			continue
		}
		stop := a.x.Stops[site-1]
		if time < stop.From {
			time = stop.From
		}
		if time > stop.Till {
			return false
		}
		starts[site-1] = time
		time += stop.Stay
	}
	return true
}

// length is the sum of all ways gone.
func (a *Area) length(list [][]int) int {
	sum := 0
	for i := 0; i < len(list); i++ {
		for k := 1; k < len(list[i]); k++ {
			sum += a.far[list[i][k-1]][list[i][k]]
		}
	}
	return sum
}
