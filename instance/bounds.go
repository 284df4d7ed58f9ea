package instance

import "depot/api"

// Fault tells what keeps x from being an instance; OK if nothing does. Parse asks the same of each line, by the functions below, so that what Print writes Parse takes.
func Fault(x api.Instance) api.Errno {
	if len(x.Stops) > api.MaxStops || len(x.Roads) > api.MaxRoads {
		return api.ErrMany
	}
	if !headFits(x) {
		return api.ErrBound
	}
	for i := 0; i < len(x.Stops); i++ {
		if !stopFits(x.Stops[i], x.Nodes) {
			return api.ErrBound
		}
	}
	for i := 0; i < len(x.Roads); i++ {
		if !roadFits(x.Roads[i], x.Nodes) {
			return api.ErrBound
		}
	}
	return api.OK
}

func headFits(x api.Instance) bool {
	if x.Vans < 1 || x.Vans > api.MaxVans {
		return false
	}
	if x.Nodes < 1 || x.Nodes > api.MaxNodes {
		return false
	}
	if x.Home < 0 || x.Home >= x.Nodes {
		return false
	}
	return allFit([]int{x.Load, x.Close})
}

func stopFits(s api.Stop, nodes int) bool {
	if s.Node < 0 || s.Node >= nodes {
		return false
	}
	if s.Till < s.From {
		return false
	}
	return allFit([]int{s.Want, s.From, s.Till, s.Stay})
}

func roadFits(r api.Road, nodes int) bool {
	if r.A < 0 || r.A >= nodes {
		return false
	}
	if r.B < 0 || r.B >= nodes {
		return false
	}
	return allFit([]int{r.Len})
}

// allFit is for the numbers that have no bound of their own.
func allFit(list []int) bool {
	for i := 0; i < len(list); i++ {
		if list[i] < 0 || list[i] > api.MaxNum {
			return false
		}
	}
	return true
}
