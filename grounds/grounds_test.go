package grounds

import (
	"testing"

	"depot/api"
	"depot/cells"
	"depot/rounds"
)

// A walk may be handed nodes that Read does not tell; they do not hold, and do not panic.
func TestStepOfWhatIsNoNode(t *testing.T) {
	x := api.Instance{Vans: 1, Nodes: 1, Stops: make([]api.Stop, 1)}
	for _, n := range []api.Node{
		{}, {Kind: 5, List: []int{1}}, {Kind: api.Branch}, {Kind: api.Branch, List: []int{0}}, {Kind: api.Branch, List: []int{0, 1, 0}}, {Kind: api.Duals}, {Kind: api.Hall}, {Kind: api.Chain},
	} {
		w := &walk{area: rounds.Of(x), arcs: cells.Open(x), plan: true}
		if w.step(n) {
			t.Errorf("%v holds", n)
		}
	}
}

// Behind the last leaf nothing is said of any arc.
func TestWalkEndsWhereItBegan(t *testing.T) {
	x := api.Instance{Vans: 1, Nodes: 1, Stops: make([]api.Stop, 2)}
	w := &walk{area: rounds.Of(x), arcs: cells.Open(x), plan: true}
	leaf := api.Node{Kind: api.Duals, List: make([]int, 6)}
	list := []api.Node{{Kind: api.Branch, List: []int{0, 1}}, {Kind: api.Branch, List: []int{1, 2}}, leaf, leaf, {Kind: api.Branch, List: []int{1, 2}}, leaf, leaf}
	said := [][2]int{{cells.Forced, cells.Free}, {cells.Forced, cells.Forced}, {cells.Forced, cells.Barred}, {cells.Barred, cells.Free}, {cells.Barred, cells.Forced}, {cells.Barred, cells.Barred}, {cells.Free, cells.Free}}
	for i, n := range list {
		if !w.step(n) {
			t.Fatalf("node %d does not hold", i+1)
		}
		if now := [2]int{w.arcs.Said(0, 1), w.arcs.Said(1, 2)}; now != said[i] {
			t.Errorf("behind node %d: said %v, want %v", i+1, now, said[i])
		}
	}
	if len(w.above) != 0 {
		t.Errorf("above: %v", w.above)
	}
}
