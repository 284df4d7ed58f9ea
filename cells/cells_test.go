package cells

import (
	"testing"

	"depot/api"
)

// What is no instance has no arcs, and no cells: its numbers could lie anywhere.
func TestOpenOfWhatIsNone(t *testing.T) {
	for _, x := range []api.Instance{
		{}, {Vans: -1, Nodes: 1}, {Vans: 4, Nodes: 1}, {Vans: 1 << 60, Nodes: 1}, {Vans: 1, Nodes: 2, Home: 2}, {Vans: 1, Nodes: 1, Stops: []api.Stop{{Node: 1}}}, {Vans: 1, Nodes: 1, Stops: make([]api.Stop, 8)},
	} {
		arcs := Open(x)
		if rows := arcs.Square(); len(rows) != 0 {
			t.Errorf("cells of %+v: %v", x, rows)
		}
		if fault := arcs.Read("01", ""); fault != api.ErrArcs {
			t.Errorf("arcs of %+v: %d", x, fault)
		}
	}
}
