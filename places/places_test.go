package places

import (
	"testing"

	"depot/api"
	"depot/cells"
)

// twoStops is an instance with the sites 0, 1 and 2.
func twoStops() api.Instance {
	return api.Instance{Vans: 1, Nodes: 1, Stops: make([]api.Stop, 2)}
}

// Behind the last leaf nothing is said of any arc.
func TestPlacesEndWhereTheyBegan(t *testing.T) {
	p := Root(twoStops())
	for i, c := range []struct {
		arc   []int // of a branch; none at a leaf
		more  bool
		first int
		other int
	}{
		{[]int{0, 1}, true, cells.Forced, cells.Free},
		{[]int{1, 2}, true, cells.Forced, cells.Forced},
		{nil, true, cells.Forced, cells.Barred},
		{nil, true, cells.Barred, cells.Free},
		{[]int{1, 2}, true, cells.Barred, cells.Forced},
		{nil, true, cells.Barred, cells.Barred},
		{nil, false, cells.Free, cells.Free},
	} {
		more := false
		if len(c.arc) > 0 {
			more = p.Enter(c.arc)
		} else {
			more = p.Leave()
		}
		if more != c.more || p.Arcs.Said(0, 1) != c.first || p.Arcs.Said(1, 2) != c.other {
			t.Errorf("behind node %d: %v, said %d, %d", i+1, more, p.Arcs.Said(0, 1), p.Arcs.Said(1, 2))
		}
	}
	if len(p.above) != 0 {
		t.Errorf("above: %v", p.above)
	}
}

// A tree of one leaf is whole behind it.
func TestLeaveOfTheRoot(t *testing.T) {
	p := Root(twoStops())
	if p.Leave() || p.Leave() {
		t.Error("a place is left behind the only leaf")
	}
}

// What is no arc, or one that is not free, is not entered, and nothing is said of it.
func TestEnterOfWhatIsNoBranch(t *testing.T) {
	p := Root(twoStops())
	p.Enter([]int{2, 1})
	for _, list := range [][]int{nil, {}, {0}, {0, 1, 2}, {0, 0}, {0, 3}, {3, 0}, {-1, 0}, {1 << 62, 1}, {2, 1}} {
		if p.Enter(list) || len(p.above) != 1 || p.Arcs.Said(2, 1) != cells.Forced {
			t.Errorf("Enter(%v): above %v", list, p.above)
		}
	}
	p.Leave()
	if p.Enter([]int{2, 1}) || p.Arcs.Said(2, 1) != cells.Barred {
		t.Error("an arc that is barred was entered")
	}
	empty := Root(api.Instance{})
	if empty.Enter([]int{0, 1}) || empty.Leave() {
		t.Error("what is no instance has arcs")
	}
}
