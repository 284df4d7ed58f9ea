package search

import (
	"depot/api"
	"depot/assign"
	"depot/cells"
)

// next is the node for the place: a leaf that holds there, or a branch where none is known to.
//
// Duals hold for the plan that is told at the end too, since it costs no more than the cheapest one so far.
func (s *search) next() api.Node {
	rows := s.place.Arcs.Square()
	// The cells of an instance are a square, and no way is above MaxCost.
	m, _ := assign.Best(rows)
	if !m.Whole {
		return api.Node{Kind: api.Hall, List: m.Rows}
	}
	if s.found && m.Cost >= s.cost {
		return duals(m)
	}
	sites := s.place.Arcs.LineSites()
	t := tourOf(sites, m.Column)
	plan := t.plan()
	if s.take(plan) {
		return duals(m)
	}
	chain := s.weakest(t)
	return s.part(chain)
}

func duals(m api.Match) api.Node {
	var list []int
	list = append(list, m.U...)
	list = append(list, m.V...)
	return api.Node{Kind: api.Duals, List: list}
}

// take takes a plan for the cheapest one so far if Judge accepts it. It is asked only with plans that cost less than the one before.
func (s *search) take(plan string) bool {
	cost, _, fault := s.area.Judge(plan)
	if fault != api.OK {
		return false
	}
	s.found = true
	s.plan = plan
	s.cost = cost
	return true
}

// weakest is the chain of a tour that no van can go along and that has the fewest free arcs: so many branches show it. A tour that is no plan has one: a stop that no van gets to stands on a ring, where it comes twice, and a van that is too full or late goes from the depot to the depot.
func (s *search) weakest(t *tour) []int {
	var best []int
	fewest := 0
	list := t.beginnings()
	for i := 0; i < len(list); i++ {
		chain := s.blocked(t, list[i])
		if len(chain) == 0 {
			continue
		}
		free := s.freeArcs(chain)
		if len(best) == 0 || free < fewest {
			best = chain
			fewest = free
		}
	}
	return best
}

// blocked goes along a tour, from a beginning on, until no van can go that far; the answer is empty if one comes home.
func (s *search) blocked(t *tour, beginning []int) []int {
	var chain []int
	chain = append(chain, beginning...)
	for len(chain) > 0 && len(chain) <= api.MaxChain {
		if s.area.Blocked(chain) {
			return chain
		}
		last := chain[len(chain)-1]
		if last == depot {
			return nil
		}
		chain = append(chain, t.behind[last])
	}
	return nil
}

func (s *search) freeArcs(chain []int) int {
	count := 0
	for i := 1; i < len(chain); i++ {
		if s.place.Arcs.Said(chain[i-1], chain[i]) == cells.Free {
			count++
		}
	}
	return count
}

// part is the branch by the first free arc of a chain that no van can go along; where none is free all are forced, since a tour has no barred ones, and the chain itself holds.
func (s *search) part(chain []int) api.Node {
	for i := 1; i < len(chain); i++ {
		if s.place.Arcs.Said(chain[i-1], chain[i]) == cells.Free {
			return api.Node{Kind: api.Branch, List: []int{chain[i-1], chain[i]}}
		}
	}
	return api.Node{Kind: api.Chain, List: chain}
}
