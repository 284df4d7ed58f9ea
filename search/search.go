// Package search: the cheapest plan of an instance, and a tree of grounds for it.
package search

import (
	"depot/api"
	"depot/instance"
	"depot/places"
	"depot/rounds"
	"depot/trees"
)

// search makes a tree node by node, in its order. What it does hangs on the nodes made so far alone, not on how many may still be made: so a greater budget only goes on where a lesser one was spent.
type search struct {
	area  rounds.Area
	place places.Place // of the next node
	list  []api.Node   // the nodes made so far
	found bool         // plan and cost are those of the cheapest plan so far
	plan  string
	cost  int
}

// Solve tells the cheapest plan, or that there is none, and the tree that shows it; or what it knows when the budget is spent.
func Solve(text string, budget int) (api.Answer, api.Errno) {
	x, _, fault := instance.Parse(text)
	if fault != api.OK {
		return api.Answer{}, fault
	}
	if budget < 0 || budget > api.MaxBudget {
		return api.Answer{}, api.ErrArg
	}
	area := rounds.Of(x)
	root := places.Root(x)
	s := &search{area: area, place: root, plan: api.NoPlan}
	if !s.grow(budget) {
		return api.Answer{Verdict: api.Spent, Plan: s.plan, Cost: s.cost}, api.OK
	}
	// The nodes are a tree, for grow made them up to where no place is left.
	tree, _ := trees.Write(s.list)
	verdict := api.Nothing
	if s.found {
		verdict = api.Best
	}
	return api.Answer{Verdict: verdict, Plan: s.plan, Cost: s.cost, Tree: tree}, api.OK
}

// grow makes nodes until the tree is whole; it tells false if the budget is spent before.
//
// The tree is whole long before the greatest budget is spent. A branch is by an arc of a match, so where that arc is forced there is room for this match. Thus every run of branches, each on the forced side of the one before, ends at a leaf that has room for some match, and no two leaves have room for the same one. Seven stops and three vans have fewer than 60000 matches, told apart by their arcs, of which none has more than ten; and a run is no longer than its match. So no tree has more than 600000 branches.
func (s *search) grow(budget int) bool {
	for len(s.list) < budget {
		n := s.next()
		s.list = append(s.list, n)
		if n.Kind == api.Branch {
			s.place.Enter(n.List)
		} else if !s.place.Leave() {
			return true
		}
	}
	return false
}
