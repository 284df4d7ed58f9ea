package depot_test

import (
	"math/rand"
	"testing"

	"depot/api"
	"depot/depot"
)

func TestPrintGivesTheText(t *testing.T) {
	for _, c := range []struct {
		x    api.Instance
		want string
	}{
		{instanceA(), textA},
		{instanceB(), textB},
		{api.Instance{Vans: 1, Nodes: 1}, "D 1 0 0 1 0\n"},
		{api.Instance{Vans: 1, Nodes: 1, Stops: []api.Stop{}, Roads: []api.Road{}}, "D 1 0 0 1 0\n"},
		{api.Instance{Vans: 1, Nodes: 1, Stops: []api.Stop{{}}}, "D 1 0 0 1 0\nS 0 0 0 0 0\n"},
		{api.Instance{Vans: 1, Nodes: 1, Roads: []api.Road{{}}}, "D 1 0 0 1 0\nR 0 0 0\n"},
		{api.Instance{Vans: 3, Load: 10000, Close: 10000, Nodes: 12, Home: 11, Stops: []api.Stop{{Node: 11, Want: 10000, From: 10000, Till: 10000, Stay: 10000}}, Roads: []api.Road{{A: 11, B: 11, Len: 10000}}}, "D 3 10000 10000 12 11\nS 11 10000 10000 10000 10000\nR 11 11 10000\n"},
		{api.Instance{Vans: 2, Load: 3, Close: 4, Nodes: 9, Home: 8, Stops: []api.Stop{{Node: 7, Want: 6, From: 1, Till: 2, Stay: 5}, {Node: 8, Want: 10, From: 100, Till: 1000, Stay: 9}}, Roads: []api.Road{{A: 1, B: 2, Len: 3}, {A: 3, B: 2, Len: 1}}}, "D 2 3 4 9 8\nS 7 6 1 2 5\nS 8 10 100 1000 9\nR 1 2 3\nR 3 2 1\n"},
	} {
		text, fault := depot.Print(c.x)
		if fault != api.OK || text != c.want {
			t.Errorf("P4: Print(%+v) = %q, %d, want %q", c.x, text, fault, c.want)
		}
	}
}

func TestPrintMany(t *testing.T) {
	for _, x := range []api.Instance{
		{Vans: 1, Nodes: 1, Stops: make([]api.Stop, 8)},
		{Vans: 1, Nodes: 1, Roads: make([]api.Road, 41)},
		{Stops: make([]api.Stop, 8)},
		{Roads: make([]api.Road, 41)},
		{Vans: 1, Nodes: 1, Stops: []api.Stop{{Node: -1}}, Roads: make([]api.Road, 41)},
		{Vans: 1, Nodes: 1, Stops: make([]api.Stop, 1000000), Roads: make([]api.Road, 1000000)},
	} {
		text, fault := depot.Print(x)
		if text != "" || fault != api.ErrMany {
			t.Errorf("P4: Print of %d stops, %d roads = %q, %d", len(x.Stops), len(x.Roads), text, fault)
		}
	}
	for _, x := range []api.Instance{
		{Vans: 1, Nodes: 1, Stops: make([]api.Stop, 7)},
		{Vans: 1, Nodes: 1, Roads: make([]api.Road, 40)},
		{Vans: 1, Nodes: 1, Stops: make([]api.Stop, 7), Roads: make([]api.Road, 40)},
	} {
		text, fault := depot.Print(x)
		if text != textOf(x) || fault != api.OK {
			t.Errorf("P4: Print of %d stops, %d roads = %q, %d", len(x.Stops), len(x.Roads), text, fault)
		}
	}
}

// place is one number of an instance that has its full stops and roads, with the least and the greatest that it may be.
type place struct {
	name            string
	at              *int
	least, greatest int
}

func places(x *api.Instance) []place {
	list := []place{{"Vans", &x.Vans, 1, 3}, {"Load", &x.Load, 0, 10000}, {"Close", &x.Close, 0, 10000}, {"Home", &x.Home, 0, x.Nodes - 1}}
	for i := range x.Stops {
		s := &x.Stops[i]
		list = append(list, place{"Node", &s.Node, 0, x.Nodes - 1}, place{"Want", &s.Want, 0, 10000}, place{"From", &s.From, 0, s.Till}, place{"Till", &s.Till, s.From, 10000}, place{"Stay", &s.Stay, 0, 10000})
	}
	for i := range x.Roads {
		r := &x.Roads[i]
		list = append(list, place{"A", &r.A, 0, x.Nodes - 1}, place{"B", &r.B, 0, x.Nodes - 1}, place{"Len", &r.Len, 0, 10000})
	}
	return list
}

func fullInstance() api.Instance {
	x := api.Instance{Vans: 2, Load: 9, Close: 99, Nodes: 5, Home: 3}
	for i := range 7 {
		x.Stops = append(x.Stops, api.Stop{Node: i % 5, Want: i, From: 10 + i, Till: 20 + i, Stay: i})
	}
	for i := range 40 {
		x.Roads = append(x.Roads, api.Road{A: i % 5, B: i / 5 % 5, Len: i})
	}
	return x
}

// Each number by itself is put at its edges and past them; the answer must turn there.
func TestPrintBounds(t *testing.T) {
	for k := range places(&api.Instance{Nodes: 5, Stops: make([]api.Stop, 7), Roads: make([]api.Road, 40)}) {
		x := fullInstance()
		p := places(&x)[k]
		for _, value := range []int{p.least, p.greatest} {
			*p.at = value
			text, fault := depot.Print(x)
			if fault != api.OK || text != textOf(x) {
				t.Errorf("P4: Print with %s (place %d) %d: %d", p.name, k, value, fault)
			}
		}
		for _, value := range []int{p.least - 1, p.greatest + 1, minInt, maxInt} {
			*p.at = value
			text, fault := depot.Print(x)
			if fault != api.ErrBound || text != "" {
				t.Errorf("P4: Print with %s (place %d) %d: %q, %d", p.name, k, value, text, fault)
			}
		}
	}
}

func TestPrintNodes(t *testing.T) {
	for _, c := range []struct {
		nodes, home int
		fault       api.Errno
	}{
		{1, 0, api.OK}, {12, 11, api.OK}, {0, 0, api.ErrBound}, {13, 0, api.ErrBound}, {13, 12, api.ErrBound}, {-1, -2, api.ErrBound}, {0, -1, api.ErrBound}, {maxInt, 0, api.ErrBound}, {minInt, minInt, api.ErrBound}, {minInt, maxInt, api.ErrBound}, {1, 1, api.ErrBound}, {12, 12, api.ErrBound}, {12, -1, api.ErrBound},
	} {
		text, fault := depot.Print(api.Instance{Vans: 1, Nodes: c.nodes, Home: c.home})
		if fault != c.fault || (text == "") != (fault != api.OK) {
			t.Errorf("P4: Print with %d nodes, home %d: %q, %d, want %d", c.nodes, c.home, text, fault, c.fault)
		}
	}
}

func TestParseOfPrintGivesTheInstanceAgain(t *testing.T) {
	r := rand.New(rand.NewSource(4))
	for range 3000 {
		x := randomInstance(r, 10000)
		text, fault := depot.Print(x)
		if fault != api.OK || text != textOf(x) {
			t.Fatalf("P4: Print(%+v) = %q, %d", x, text, fault)
		}
		y, line, fault := depot.Parse(text)
		if fault != api.OK || line != 0 || !same(x, y) {
			t.Fatalf("P4: Parse of Print(%+v) = %+v, %d, %d", x, y, line, fault)
		}
	}
}
