package depot_test

import (
	"math/rand"
	"slices"
	"strings"
	"testing"

	"depot/api"
	"depot/depot"
)

// The kinds of moves of P7.
const (
	within  = "to another place of its route"
	across  = "to another route"
	alone   = "to a route of its own"
	emptied = "to another route, and its own goes away"
)

// slowMove is a plan that is one move away.
type slowMove struct {
	kind, plan string
}

// slowMoves makes each move on lists of routes, not on the text.
func slowMoves(plan string) []slowMove {
	var list []slowMove
	for from, route := range strings.Split(plan, "/") {
		for i := range route {
			stop := route[i : i+1]
			left := strings.Split(plan, "/")
			left[from] = route[:i] + route[i+1:]
			for to := range left {
				if to == from && left[to] == "" {
					continue
				}
				for k := range len(left[to]) + 1 {
					moved := slices.Clone(left)
					moved[to] = left[to][:k] + stop + left[to][k:]
					list = append(list, slowMove{kindOf(from, to, left), joined(moved)})
				}
			}
			list = append(list, slowMove{alone, joined(append(left, stop))})
		}
	}
	return list
}

func kindOf(from, to int, left []string) string {
	if from == to {
		return within
	}
	if left[from] == "" {
		return emptied
	}
	return across
}

// joined leaves out the routes without stops.
func joined(routes []string) string {
	return strings.Join(slices.DeleteFunc(routes, func(route string) bool { return route == "" }), "/")
}

// improvements tells the moves that make the plan cheaper.
func improvements(x api.Instance, plan string) []slowMove {
	cost, _, _ := slowJudge(x, plan)
	var list []slowMove
	for _, m := range slowMoves(plan) {
		if less, _, fault := slowJudge(x, m.plan); fault == api.OK && less < cost {
			list = append(list, m)
		}
	}
	return list
}

// checkImprove holds Improve against all that P7 says, and tells the plan.
func checkImprove(t *testing.T, x api.Instance, plan string) string {
	t.Helper()
	text := textOf(x)
	before, _, wantFault := slowJudge(x, plan)
	better, cost, fault := depot.Improve(text, plan)
	if fault != wantFault {
		t.Fatalf("P7: Improve(%q, %q) = %q, %d, %d, want %d", text, plan, better, cost, fault, wantFault)
	}
	if fault != api.OK {
		if better != "" || cost != 0 {
			t.Fatalf("P1, P7: Improve(%q, %q) = %q, %d, %d", text, plan, better, cost, fault)
		}
		return ""
	}
	now, _, fault := slowJudge(x, better)
	if fault != api.OK || now != cost || cost > before {
		t.Fatalf("P7: Improve(%q, %q) = %q, %d: it costs %d (%d), %d before", text, plan, better, cost, now, fault, before)
	}
	if list := improvements(x, better); len(list) > 0 {
		t.Fatalf("P7: Improve(%q, %q) = %q, %d, but moves make %v", text, plan, better, cost, list)
	}
	return better
}

func TestImproveExamples(t *testing.T) {
	for _, c := range []struct {
		text, plan string
		cost       int
	}{
		{textA, "13/2", 70}, {textA, "12/3", 70}, {textB, "1", 8}, {"D 1 0 0 1 0", "", 0}, {"D 3 0 0 4 2\nR 0 1 3", "", 0},
	} {
		x, _, _ := slowParse(c.text)
		checkImprove(t, x, c.plan)
		if plan, cost, fault := depot.Improve(c.text, c.plan); cost != c.cost || fault != api.OK {
			t.Errorf("P7: Improve(%q, %q) = %q, %d, %d, want the cost %d", c.text, c.plan, plan, cost, fault, c.cost)
		}
	}
}

// Plans that one move alone makes cheaper: whoever leaves out that kind of move, or that place, does not find it.
func TestImproveFindsTheOnlyMove(t *testing.T) {
	for _, c := range []struct {
		kind, text, plan, better string
	}{
		{within, "D 1 9 30 4 0\nS 0 1 0 11 0\nS 3 0 6 13 0\nS 1 3 0 17 0\nS 3 4 1 13 1\nR 0 1 9\nR 0 3 3\nR 1 2 9\nR 1 0 1\nR 2 3 2\nR 2 1 2\nR 3 0 9\nR 3 2 4\n", "1324", "1243"},
		{within, "D 3 9 30 4 0\nS 3 5 7 15 0\nS 2 1 7 20 1\nS 1 1 2 15 0\nR 0 1 5\nR 0 3 3\nR 1 2 3\nR 1 0 3\nR 2 3 4\nR 2 1 6\nR 3 0 1\nR 3 2 4\n", "132", "321"},
		{across, "D 2 9 30 4 0\nS 1 4 5 11 0\nS 1 1 0 2 0\nS 1 3 6 15 1\nS 0 3 5 18 0\nR 0 1 2\nR 0 3 3\nR 1 2 4\nR 1 0 2\nR 2 3 5\nR 2 1 9\nR 3 0 5\nR 3 2 7\n", "24/31", "4/231"},
		{across, "D 2 9 30 4 0\nS 1 4 5 11 0\nS 1 1 0 2 0\nS 1 3 6 15 1\nS 0 3 5 18 0\nR 0 1 2\nR 0 3 3\nR 1 2 4\nR 1 0 2\nR 2 3 5\nR 2 1 9\nR 3 0 5\nR 3 2 7\n", "31/24", "231/4"},
		{across, "D 2 9 30 4 0\nS 2 6 5 15 1\nS 3 3 0 7 0\nS 0 1 0 14 1\nR 0 1 9\nR 0 3 4\nR 1 2 8\nR 1 0 8\nR 2 3 5\nR 2 1 7\nR 3 0 2\nR 3 2 5\n", "31/2", "3/21"},
		{across, "D 2 9 30 4 0\nS 2 6 5 15 1\nS 3 3 0 7 0\nS 0 1 0 14 1\nR 0 1 9\nR 0 3 4\nR 1 2 8\nR 1 0 8\nR 2 3 5\nR 2 1 7\nR 3 0 2\nR 3 2 5\n", "2/31", "21/3"},
		{alone, "D 2 9 30 4 0\nS 1 0 0 5 0\nS 2 0 0 19 1\nS 0 3 5 16 0\nR 0 1 4\nR 0 3 4\nR 1 2 6\nR 1 0 3\nR 2 3 4\nR 2 1 8\nR 3 0 6\nR 3 2 2\n", "132", "12/3"},
		{alone, "D 2 9 30 4 0\nS 0 2 3 12 0\nS 2 3 7 20 1\nS 1 3 1 6 0\nR 0 1 6\nR 0 3 2\nR 1 2 7\nR 1 0 6\nR 2 3 9\nR 2 1 2\nR 3 0 5\nR 3 2 2\n", "312", "32/1"},
		{emptied, "D 2 9 30 4 0\nS 3 0 0 3 1\nS 3 4 4 22 1\nS 3 1 0 14 1\nR 0 1 8\nR 0 3 2\nR 1 2 6\nR 1 0 1\nR 2 3 9\nR 2 1 4\nR 3 0 5\nR 3 2 8\n", "31/2", "312"},
		{emptied, "D 2 9 30 4 0\nS 3 0 0 3 1\nS 3 4 4 22 1\nS 3 1 0 14 1\nR 0 1 8\nR 0 3 2\nR 1 2 6\nR 1 0 1\nR 2 3 9\nR 2 1 4\nR 3 0 5\nR 3 2 8\n", "2/31", "312"},
		{emptied, "D 3 9 30 4 0\nS 3 0 7 8 1\nS 3 2 0 2 0\nS 3 1 7 8 0\nR 0 1 7\nR 0 3 1\nR 1 2 1\nR 1 0 2\nR 2 3 6\nR 2 1 8\nR 3 0 6\nR 3 2 3\n", "2/13", "213"},
	} {
		x, _, _ := slowParse(c.text)
		list := improvements(x, c.plan)
		if len(list) != 1 || list[0] != (slowMove{c.kind, c.better}) {
			t.Fatalf("the test is wrong: %q of %q: %v", c.plan, c.text, list)
		}
		checkImprove(t, x, c.plan)
	}
}

func TestImproveAnswersTheErrorOfJudge(t *testing.T) {
	for _, list := range [][]struct {
		name, text, plan string
		fault            api.Errno
	}{refusals, both} {
		for _, c := range list {
			plan, cost, fault := depot.Improve(c.text, c.plan)
			if plan != "" || cost != 0 || fault != c.fault {
				t.Errorf("P7: %s: Improve(%.60q, %q) = %q, %d, %d, want %d", c.name, c.text, c.plan, plan, cost, fault, c.fault)
			}
		}
	}
	if plan, cost, fault := depot.Improve(textA, strings.Repeat("1/", 1000000)+"1"); plan != "" || cost != 0 || fault != api.ErrTwice {
		t.Errorf("P1, P7: Improve of a million routes = %q, %d, %d", plan, cost, fault)
	}
}

// allPlans tells every plan of some stops, with every order of the routes.
func allPlans(stops int) []string {
	if stops == 0 {
		return []string{""}
	}
	if stops == 1 {
		return []string{"1"}
	}
	stop := string(rune('0' + stops))
	var list []string
	for _, plan := range allPlans(stops - 1) {
		list = append(list, stop+"/"+plan)
		for k := range len(plan) + 1 {
			list = append(list, plan[:k]+stop+plan[k:])
			if k == len(plan) || plan[k] == '/' {
				list = append(list, plan[:k]+"/"+stop+plan[k:])
			}
		}
	}
	return list
}

func TestImproveOfAllPlans(t *testing.T) {
	r := rand.New(rand.NewSource(13))
	for i := range 60 {
		x := kindInstance(r, i%5)
		for _, plan := range allPlans(i % 5) {
			checkImprove(t, x, plan)
		}
	}
}

func TestImproveOfRandomPlans(t *testing.T) {
	r := rand.New(rand.NewSource(14))
	kept, near, far := 0, 0, 0
	for i := range 6000 {
		x := kindInstance(r, r.Intn(8))
		if i%10 == 0 {
			x = randomInstance(r, []int{50, 10000}[i/10%2])
		}
		plan := randomPlan(r, x)
		if i%20 == 1 {
			plan = spoilPlan(r, plan)
		}
		_, _, fault := slowJudge(x, plan)
		better := checkImprove(t, x, plan)
		switch {
		case fault != api.OK:
		case len(improvements(x, plan)) == 0:
			kept++
		case slices.ContainsFunc(slowMoves(plan), func(m slowMove) bool { return m.plan == better }):
			near++
		default:
			far++
		}
	}
	if kept < 300 || near < 300 || far < 300 {
		t.Errorf("the test is too weak: %d, %d, %d", kept, near, far)
	}
}
