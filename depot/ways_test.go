package depot_test

import (
	"math/rand"
	"reflect"
	"strconv"
	"strings"
	"testing"

	"depot/api"
	"depot/depot"
)

func TestWays(t *testing.T) {
	for _, c := range []struct {
		name, text string
		want       [][]int
	}{
		{"A", textA, [][]int{{0, 10, 15, 20}, {10, 0, 5, 12}, {15, 5, 0, 7}, {20, 12, 7, 0}}},
		{"B", textB, [][]int{{0, 4}, {4, 0}}},
		{"D: a road is one way", textD, [][]int{{0, 4}, {-1, 0}}},
		{"no stops", "D 1 0 0 1 0", [][]int{{0}}},
		{"no stops, home in the middle", "D 1 0 0 3 1\nR 0 1 1\nR 1 2 1", [][]int{{0}}},
		{"no roads", "D 1 0 0 2 0\nS 1 0 0 0 0\nS 0 0 0 0 0\nS 1 0 0 0 0", [][]int{{0, -1, 0, -1}, {-1, 0, -1, 0}, {0, -1, 0, -1}, {-1, 0, -1, 0}}},
		{"a road from a node to itself", "D 1 0 0 1 0\nS 0 0 0 0 0\nR 0 0 7", [][]int{{0, 0}, {0, 0}}},
		{"several roads, the least first", "D 1 0 0 2 0\nS 1 0 0 0 0\nR 0 1 3\nR 0 1 8", [][]int{{0, 3}, {-1, 0}}},
		{"several roads, the least last", "D 1 0 0 2 0\nS 1 0 0 0 0\nR 0 1 8\nR 0 1 3", [][]int{{0, 3}, {-1, 0}}},
		{"a road of the length 0", "D 1 0 0 2 0\nS 1 0 0 0 0\nR 0 1 8\nR 0 1 0\nR 1 0 0", [][]int{{0, 0}, {0, 0}}},
		{"a detour that is shorter", "D 1 0 0 3 2\nS 0 0 0 0 0\nR 2 1 3\nR 1 0 4\nR 2 0 8\nR 2 0 9\nR 0 2 0", [][]int{{0, 7}, {0, 0}}},
		{"a detour that is longer", "D 1 0 0 3 2\nS 0 0 0 0 0\nR 2 1 3\nR 1 0 6\nR 2 0 8", [][]int{{0, 8}, {-1, 0}}},
		{"a walk that leaves the node again", "D 1 0 0 2 0\nS 0 0 0 0 0\nR 0 1 3\nR 1 0 3\nR 0 0 1", [][]int{{0, 0}, {0, 0}}},
		{"stops in their own order", "D 1 0 0 3 1\nS 2 0 0 0 0\nS 0 0 0 0 0\nR 1 2 5\nR 2 0 6\nR 0 1 7", [][]int{{0, 5, 11}, {13, 0, 6}, {7, 12, 0}}},
	} {
		got, fault := depot.Ways(c.text)
		if fault != api.OK || !reflect.DeepEqual(got, c.want) {
			t.Errorf("P5: %s: Ways(%q) = %v, %d, want %v", c.name, c.text, got, fault, c.want)
		}
	}
}

// A line of all twelve nodes, up or down: a walk of as many roads as a least one can need, and the longest way that can be.
func TestWaysAlongAllNodes(t *testing.T) {
	for _, step := range []int{1, -1} {
		text := "D 1 0 0 12 0\nS 11 0 0 0 0\n"
		for i := range 11 {
			from, to := i, i+1
			if step < 0 {
				from, to = to, from
			}
			text += "R " + strconv.Itoa(from) + " " + strconv.Itoa(to) + " 10000\n"
		}
		want := [][]int{{0, 110000}, {-1, 0}}
		if step < 0 {
			want = [][]int{{0, -1}, {110000, 0}}
		}
		got, fault := depot.Ways(text)
		if fault != api.OK || !reflect.DeepEqual(got, want) {
			t.Errorf("P5: Ways along eleven roads = %v, %d, want %v", got, fault, want)
		}
	}
}

func TestWaysAnswersTheErrorOfParse(t *testing.T) {
	for _, c := range []struct {
		text  string
		fault api.Errno
	}{
		{"", api.ErrForm}, {"x", api.ErrForm}, {textA + "x", api.ErrForm},
		{textA + strings.Repeat("\n", 2001-len(textA)), api.ErrLong}, {strings.Repeat("x", 9000000), api.ErrLong},
		{"D 1 5 20 2 2", api.ErrBound}, {textA + "R 4 0 1", api.ErrBound}, {textA + "S 0 0 1 0 0", api.ErrBound},
		{textA + strings.Repeat("S 0 1 0 5 1\n", 5), api.ErrMany}, {textA + strings.Repeat("R 0 0 0\n", 33), api.ErrMany},
	} {
		got, fault := depot.Ways(c.text)
		if len(got) != 0 || fault != c.fault {
			t.Errorf("P5: Ways(%.60q) = %v, %d, want %d", c.text, got, fault, c.fault)
		}
	}
}

// slowWays spreads from one node along all roads until nothing gets shorter.
func slowWays(x api.Instance) [][]int {
	nodes := []int{x.Home}
	for _, s := range x.Stops {
		nodes = append(nodes, s.Node)
	}
	var rows [][]int
	for _, from := range nodes {
		far := map[int]int{from: 0}
		for changed := true; changed; {
			changed = false
			for _, r := range x.Roads {
				here, known := far[r.A]
				there, reached := far[r.B]
				if known && (!reached || here+r.Len < there) {
					far[r.B] = here + r.Len
					changed = true
				}
			}
		}
		row := []int{}
		for _, to := range nodes {
			length, reached := far[to]
			if !reached {
				length = -1
			}
			row = append(row, length)
		}
		rows = append(rows, row)
	}
	return rows
}

func TestWaysAgainstSlowWays(t *testing.T) {
	r := rand.New(rand.NewSource(5))
	for i := range 5000 {
		longest := []int{3, 50, 10000}[i%3]
		x := randomInstance(r, longest)
		if i%2 == 0 {
			x.Roads = x.Roads[:len(x.Roads)/2]
		}
		got, fault := depot.Ways(textOf(x))
		want := slowWays(x)
		if fault != api.OK || !reflect.DeepEqual(got, want) {
			t.Fatalf("P5: Ways(%q) = %v, %d, want %v", textOf(x), got, fault, want)
		}
	}
}
