package cells

import (
	"testing"

	"depot/api"
)

// What is no instance has no arcs, and no cells: its numbers could lie anywhere.
func TestOpenOfWhatIsNone(t *testing.T) {
	for _, x := range []api.Instance{
		{}, {Vans: -1, Nodes: 1}, {Vans: 4, Nodes: 1}, {Vans: 1 << 60, Nodes: 1}, {Vans: 1, Nodes: 2, Home: 2}, {Vans: 1, Nodes: 1, Stops: []api.Stop{{Node: 1}}}, {Vans: 1, Nodes: 1, Stops: make([]api.Stop, 8)},
	} {
		arcs := Open(x)
		if rows := arcs.Square(); len(rows) != 0 {
			t.Errorf("cells of %+v: %v", x, rows)
		}
		if fault := arcs.Read("01", ""); fault != api.ErrArcs {
			t.Errorf("arcs of %+v: %d", x, fault)
		}
	}
}

// Of what is no arc nothing is said, whatever one says.
func TestSaidOfWhatIsNoArc(t *testing.T) {
	arcs := Open(api.Instance{Vans: 1, Nodes: 1, Stops: make([]api.Stop, 2)})
	for _, arc := range [][2]int{{0, 0}, {2, 2}, {0, 3}, {3, 0}, {-1, 0}, {0, -1}, {7, 7}, {8, 0}, {0, 1 << 62}, {-1 << 63, 0}} {
		arcs.Say(arc[0], arc[1], Forced)
		if said := arcs.Said(arc[0], arc[1]); said != api.None {
			t.Errorf("Said%v = %d", arc, said)
		}
	}
	for _, what := range []int{Forced, Barred, Free} {
		arcs.Say(2, 1, what)
		if arcs.Said(2, 1) != what || arcs.Said(1, 2) != Free {
			t.Errorf("Said = %d, %d, want %d", arcs.Said(2, 1), arcs.Said(1, 2), what)
		}
	}
}
