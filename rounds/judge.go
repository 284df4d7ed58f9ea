package rounds

import "depot/api"

// Judge tells what a plan costs and the start at each stop.
func (a *Area) Judge(plan string) (int, []int, api.Errno) {
	fault := textFault(plan, len(a.x.Stops))
	if fault != api.OK {
		return 0, nil, fault
	}
	list := routes(plan)
	if len(list) > a.x.Vans {
		return 0, nil, api.ErrVans
	}
	// Each fault is sought on all routes ahead of the next one: an early route that is late does not hide a later one that has no way.
	if !a.allLoad(list) {
		return 0, nil, api.ErrLoad
	}
	if !a.allHaveWays(list) {
		return 0, nil, api.ErrRoad
	}
	starts := make([]int, len(a.x.Stops))
	if !a.allInTime(list, starts) {
		return 0, nil, api.ErrLate
	}
	return a.length(list), starts, api.OK
}

// allLoad tells whether each route's wants fit into one van.
func (a *Area) allLoad(list [][]int) bool {
	for i := 0; i < len(list); i++ {
		sum := 0
		for k := 0; k < len(list[i]); k++ {
			site := list[i][k]
			if site != depot {
				sum += a.x.Stops[site-1].Want
			}
		}
		if sum > a.x.Load {
			return false
		}
	}
	return true
}

func (a *Area) allHaveWays(list [][]int) bool {
	for i := 0; i < len(list); i++ {
		for k := 1; k < len(list[i]); k++ {
			if a.far[list[i][k-1]][list[i][k]] == api.None {
				return false
			}
		}
	}
	return true
}

// allInTime tells whether no van is late, and writes down the starts.
func (a *Area) allInTime(list [][]int, starts []int) bool {
	for i := 0; i < len(list); i++ {
		if !a.inTime(list[i], starts) {
			return false
		}
	}
	return true
}

// inTime writes down the starts of one route. The route ends at the depot, so the time at its end is when the van is back.
func (a *Area) inTime(route []int, starts []int) bool {
	time := 0
	for k := 1; k < len(route); k++ {
		site := route[k]
		time += a.far[route[k-1]][site]
		if site == depot {
			break
		}
		stop := a.x.Stops[site-1]
		if time < stop.From {
			time = stop.From
		}
		if time > stop.Till {
			return false
		}
		starts[site-1] = time
		time += stop.Stay
	}
	return time <= a.x.Close
}

// length is the sum of all ways gone.
func (a *Area) length(list [][]int) int {
	sum := 0
	for i := 0; i < len(list); i++ {
		for k := 1; k < len(list[i]); k++ {
			sum += a.far[list[i][k-1]][list[i][k]]
		}
	}
	return sum
}
