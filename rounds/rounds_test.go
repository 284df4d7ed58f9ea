package rounds

import (
	"reflect"
	"slices"
	"testing"

	"depot/api"
)

func TestRoutes(t *testing.T) {
	for _, c := range []struct {
		plan string
		want [][]int
	}{
		{"", nil}, {"1", [][]int{{0, 1, 0}}}, {"12/3", [][]int{{0, 1, 2, 0}, {0, 3, 0}}}, {"7/6/5", [][]int{{0, 7, 0}, {0, 6, 0}, {0, 5, 0}}},
	} {
		if got := routes(c.plan); !reflect.DeepEqual(got, c.want) {
			t.Errorf("routes(%q) = %v, want %v", c.plan, got, c.want)
		}
	}
}

func TestWithout(t *testing.T) {
	for _, c := range []struct {
		plan  string
		place int
		want  string
	}{
		{"1", 0, ""}, {"12", 0, "2"}, {"12", 1, "1"}, {"1/2", 0, "2"}, {"1/2", 2, "1"}, {"1/2/3", 2, "1/3"}, {"12/34", 0, "2/34"}, {"12/34", 1, "1/34"}, {"12/34", 3, "12/4"}, {"12/34", 4, "12/3"},
	} {
		if got := without(c.plan, c.place); got != c.want {
			t.Errorf("without(%q, %d) = %q, want %q", c.plan, c.place, got, c.want)
		}
	}
}

func TestMoves(t *testing.T) {
	for _, c := range []struct {
		plan string
		want []string
	}{
		{"", nil}, {"1", []string{"1"}}, {"12", []string{"12", "21", "2/1", "12", "21", "1/2"}}, {"1/2", []string{"12", "21", "2/1", "21", "12", "1/2"}},
	} {
		got := moves(c.plan)
		slices.Sort(got)
		slices.Sort(c.want)
		if !slices.Equal(got, c.want) {
			t.Errorf("moves(%q) = %q, want %q", c.plan, got, c.want)
		}
	}
}

// An Area that was not opened has no stops and no vans, and does not panic.
func TestEmptyArea(t *testing.T) {
	var a Area
	for _, c := range []struct {
		plan  string
		fault api.Errno
	}{{"", api.OK}, {"1", api.ErrPlan}, {"/", api.ErrPlan}} {
		if cost, starts, fault := a.Judge(c.plan); cost != 0 || len(starts) != 0 || fault != c.fault {
			t.Errorf("Judge(%q) = %d, %v, %d", c.plan, cost, starts, fault)
		}
		if plan, cost, fault := a.Improve(c.plan); plan != "" || cost != 0 || fault != c.fault {
			t.Errorf("Improve(%q) = %q, %d, %d", c.plan, plan, cost, fault)
		}
	}
	for _, x := range []api.Instance{{}, {Vans: 1, Nodes: 1, Stops: []api.Stop{{Node: 1}}}, {Vans: 9, Nodes: 2, Stops: make([]api.Stop, 8)}} {
		a := Of(x)
		if _, _, fault := a.Judge("1"); fault != api.ErrPlan || a.Blocked([]int{0}) || a.Blocked([]int{1, 1}) {
			t.Errorf("Of(%+v) has stops: %d", x, fault)
		}
	}
	if _, fault := Open("x"); fault != api.ErrForm {
		t.Errorf("Open = %d", fault)
	}
}

// What is no chain is not blocked, and does not panic.
func TestBlockedOfWhatIsNoChain(t *testing.T) {
	a := Of(api.Instance{Vans: 1, Nodes: 1, Stops: []api.Stop{{Want: 1}, {Want: 1}}})
	for _, list := range [][]int{nil, {}, {-1}, {3}, {1, 3}, {-1, 1}, {1 << 62}, {-1 << 63}, {1, 0, 2}, {0, 0, 1}, {1, 0, 0}, {0, 1, 0, 1, 0}} {
		if a.Blocked(list) {
			t.Errorf("Blocked(%v)", list)
		}
	}
	for _, list := range [][]int{{1}, {2}, {1, 1}, {0, 1}, {1, 0}, {0, 2, 0}, {0, 1, 2, 1, 2, 1, 2, 1, 2, 1, 2, 0}} {
		if !a.Blocked(list) {
			t.Errorf("not Blocked(%v)", list)
		}
	}
}
