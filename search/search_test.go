package search

import (
	"reflect"
	"testing"

	"depot/api"
	"depot/cells"
	"depot/places"
	"depot/rounds"
)

func TestTours(t *testing.T) {
	sites := []int{1, 2, 3, 4, 0, 0}
	for _, c := range []struct {
		column     []int
		plan       string
		beginnings [][]int
	}{
		{[]int{1, 2, 3, 4, 0, 5}, "1234", [][]int{{1}, {2}, {3}, {4}, {0, 1}}},
		{[]int{1, 2, 3, 5, 4, 0}, "1234", [][]int{{1}, {2}, {3}, {4}, {0, 1}}},
		{[]int{4, 0, 5, 2, 3, 1}, "43/21", [][]int{{1}, {2}, {3}, {4}, {0, 4}, {0, 2}}},
		// Rings that no van gets to.
		{[]int{1, 0, 3, 2, 4, 5}, "", [][]int{{1}, {2}, {3}, {4}}},
		{[]int{1, 0, 3, 4, 2, 5}, "34", [][]int{{1}, {2}, {3}, {4}, {0, 3}}},
	} {
		x := tourOf(sites, c.column)
		plan, list := x.plan(), x.beginnings()
		if plan != c.plan || !reflect.DeepEqual(list, c.beginnings) {
			t.Errorf("tourOf(%v): %q, %v", c.column, plan, list)
		}
	}
	none := tourOf(nil, nil)
	if none.plan() != "" || len(none.beginnings()) != 0 {
		t.Error("a tour of no sites has routes")
	}
}

// fourStops are one van that loads three, and four stops at the depot's node that want one each.
func fourStops() api.Instance {
	x := api.Instance{Vans: 1, Load: 3, Close: 9, Nodes: 1}
	for range 4 {
		x.Stops = append(x.Stops, api.Stop{Want: 1, Till: 9})
	}
	return x
}

// The chain with the fewest free arcs is parted by the first of them, until none is free.
func TestWeakestChain(t *testing.T) {
	sites := []int{1, 2, 3, 4, 0}
	through, ring := []int{1, 2, 3, 4, 0}, []int{1, 0, 3, 4, 2}
	for _, c := range []struct {
		column []int
		forced [][2]int
		chain  []int
		kind   int
		list   []int
	}{
		{through, nil, []int{1, 2, 3, 4}, api.Branch, []int{1, 2}},
		{through, [][2]int{{1, 2}, {2, 3}}, []int{1, 2, 3, 4}, api.Branch, []int{3, 4}},
		{through, [][2]int{{0, 1}, {2, 3}, {4, 0}}, []int{1, 2, 3, 4}, api.Branch, []int{1, 2}},
		{through, [][2]int{{1, 2}, {2, 3}, {3, 4}}, []int{1, 2, 3, 4}, api.Chain, []int{1, 2, 3, 4}},
		{ring, nil, []int{1, 2, 1}, api.Branch, []int{1, 2}},
		{ring, [][2]int{{1, 2}}, []int{1, 2, 1}, api.Branch, []int{2, 1}},
		{ring, [][2]int{{2, 1}, {1, 2}}, []int{1, 2, 1}, api.Chain, []int{1, 2, 1}},
	} {
		x := fourStops()
		s := &search{area: rounds.Of(x), place: places.Root(x)}
		for _, arc := range c.forced {
			s.place.Arcs.Say(arc[0], arc[1], cells.Forced)
		}
		chain := s.weakest(tourOf(sites, c.column))
		n := s.part(chain)
		if !reflect.DeepEqual(chain, c.chain) || n.Kind != c.kind || !reflect.DeepEqual(n.List, c.list) {
			t.Errorf("%v with %v forced: %v, %v", c.column, c.forced, chain, n)
		}
	}
}

// A tour that is a plan has no such chain.
func TestWeakestChainOfAPlan(t *testing.T) {
	x := fourStops()
	x.Load = 4
	s := &search{area: rounds.Of(x), place: places.Root(x)}
	if chain := s.weakest(tourOf([]int{1, 2, 3, 4, 0}, []int{1, 2, 3, 4, 0})); len(chain) != 0 {
		t.Errorf("weakest = %v", chain)
	}
}

// The numbers of a node are its own: the match keeps its lists as they are.
func TestDuals(t *testing.T) {
	u := make([]int, 2, 9)
	v := []int{5, -6}
	n := duals(api.Match{U: u, V: v})
	if n.Kind != api.Duals || !reflect.DeepEqual(n.List, []int{0, 0, 5, -6}) || u[:4][2] != 0 {
		t.Errorf("duals = %v, u = %v", n, u[:4])
	}
}
