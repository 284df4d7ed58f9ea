package grounds

import (
	"testing"

	"depot/api"
	"depot/places"
	"depot/rounds"
)

// A walk may be handed nodes that Read does not tell; they do not hold, and do not panic.
func TestStepOfWhatIsNoNode(t *testing.T) {
	x := api.Instance{Vans: 1, Nodes: 1, Stops: make([]api.Stop, 1)}
	for _, n := range []api.Node{
		{}, {Kind: 5, List: []int{1}}, {Kind: api.Branch}, {Kind: api.Branch, List: []int{0}}, {Kind: api.Branch, List: []int{0, 1, 0}}, {Kind: api.Duals}, {Kind: api.Hall}, {Kind: api.Chain},
	} {
		w := &walk{area: rounds.Of(x), place: places.Root(x), plan: true}
		if w.step(n) {
			t.Errorf("%v holds", n)
		}
	}
}

// A leaf that does not hold leaves the walk where it is, one that holds takes it to the other side.
func TestStepGoesOnWhereALeafHolds(t *testing.T) {
	x := api.Instance{Vans: 1, Nodes: 1, Stops: make([]api.Stop, 1)}
	w := &walk{area: rounds.Of(x), place: places.Root(x), plan: true}
	leaf := api.Node{Kind: api.Duals, List: make([]int, 4)}
	forced := api.Node{Kind: api.Chain, List: []int{0, 1}}
	twice := api.Node{Kind: api.Branch, List: []int{0, 1}}
	for i, c := range []struct {
		n     api.Node
		holds bool
	}{{twice, true}, {twice, false}, {forced, false}, {leaf, true}, {twice, false}, {leaf, true}, {twice, true}} {
		if w.step(c.n) != c.holds {
			t.Errorf("step %d: %v holds: %v", i, c.n, !c.holds)
		}
	}
}
