package grounds

import (
	"depot/api"
	"depot/cells"
	"depot/rounds"
)

// branch is an arc that a tree parts by: where it is forced first, then where it is barred.
type branch struct {
	from int
	to   int
}

// walk goes from node to node of a tree, in its order.
type walk struct {
	area  rounds.Area
	arcs  cells.Arcs // with what the branches above the node say
	above []branch   // the branches above the node, the lowest last
	plan  bool       // the claim is a plan
	cost  int        // of that plan
}

// take takes in what the tree is to show.
func (w *walk) take(claim string) api.Errno {
	if claim == api.NoPlan {
		return api.OK
	}
	cost, _, fault := w.area.Judge(claim)
	if fault != api.OK {
		return fault
	}
	w.plan = true
	w.cost = cost
	return api.OK
}

// step tells whether a node holds, and goes to the place of the next one if it does.
func (w *walk) step(n api.Node) bool {
	if n.Kind == api.Branch {
		return w.enter(n.List)
	}
	if !w.leafHolds(n) {
		return false
	}
	w.leave()
	return true
}

// enter goes below a branch, to the side where its arc is forced. An arc is free but once, so the walk is never deeper than there are arcs.
func (w *walk) enter(list []int) bool {
	if len(list) != 2 {
		return false
	}
	b := branch{from: list[0], to: list[1]}
	if w.arcs.Said(b.from, b.to) != cells.Free {
		return false
	}
	w.arcs.Say(b.from, b.to, cells.Forced)
	w.above = append(w.above, b)
	return true
}

// leave goes from a leaf to the other side of the lowest branch that has one left; the branches below that are done.
func (w *walk) leave() {
	for len(w.above) > 0 {
		b := w.above[len(w.above)-1]
		if w.arcs.Said(b.from, b.to) == cells.Forced {
			w.arcs.Say(b.from, b.to, cells.Barred)
			return
		}
		w.arcs.Say(b.from, b.to, cells.Free)
		w.above = w.above[:len(w.above)-1]
	}
}
