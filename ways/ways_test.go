package ways

import (
	"testing"

	"depot/api"
)

// What is no instance has no ways, and must not reach past the net.
func TestBetweenOfWhatIsNoInstance(t *testing.T) {
	for _, x := range []api.Instance{
		{},
		{Vans: 1, Nodes: 13},
		{Vans: 1, Nodes: 2, Home: 2},
		{Vans: 1, Nodes: 2, Home: -1},
		{Vans: 1, Nodes: 2, Stops: []api.Stop{{Node: 12}}},
		{Vans: 1, Nodes: 2, Stops: make([]api.Stop, 8)},
		{Vans: 1, Nodes: 2, Roads: []api.Road{{A: 12}}},
		{Vans: 1, Nodes: 2, Roads: []api.Road{{B: -1}}},
	} {
		if rows := Between(x); len(rows) != 0 {
			t.Errorf("Between(%+v) = %v", x, rows)
		}
	}
}

func TestBetween(t *testing.T) {
	rows := Between(api.Instance{Vans: 1, Nodes: 3, Home: 1, Stops: []api.Stop{{Node: 2}}, Roads: []api.Road{{A: 1, B: 0, Len: 2}, {A: 0, B: 2, Len: 3}, {A: 1, B: 2, Len: 6}}})
	if len(rows) != 2 || len(rows[0]) != 2 || rows[0][1] != 5 || rows[1][0] != api.None {
		t.Errorf("Between = %v", rows)
	}
}
