package grounds

import (
	"depot/api"
	"depot/places"
	"depot/rounds"
)

// walk goes from node to node of a tree, in its order.
type walk struct {
	area  rounds.Area
	place places.Place
	plan  bool // the claim is a plan
	cost  int  // of that plan
}

// take takes in what the tree is to show.
func (w *walk) take(claim string) api.Errno {
	if claim == api.NoPlan {
		return api.OK
	}
	cost, _, fault := w.area.Judge(claim)
	if fault != api.OK {
		return fault
	}
	w.plan = true
	w.cost = cost
	return api.OK
}

// step tells whether a node holds, and goes to the place of the next one if it does.
func (w *walk) step(n api.Node) bool {
	if n.Kind == api.Branch {
		return w.place.Enter(n.List)
	}
	if !w.leafHolds(n) {
		return false
	}
	// Whether a place is left need not be asked: Read tells just as many nodes as there are places.
	w.place.Leave()
	return true
}
