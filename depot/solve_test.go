package depot_test

import (
	"fmt"
	"math/rand"
	"slices"
	"strings"
	"testing"

	"depot/api"
	"depot/depot"
)

const greatestBudget = 1 << 57

// slowRoutes tells what the cheapest route to each set of stops costs; -1 if no van can go to them on one. It goes along all orders of stops.
func slowRoutes(x api.Instance) []int {
	far := slowWays(x)
	costs := make([]int, 1<<len(x.Stops))
	for set := range costs {
		costs[set] = -1
	}
	var goOn func(set, at, load, free, cost int)
	goOn = func(set, at, load, free, cost int) {
		if back := far[at][0]; set > 0 && back >= 0 && free+back <= x.Close && (costs[set] < 0 || cost+back < costs[set]) {
			costs[set] = cost + back
		}
		for i, stop := range x.Stops {
			way := far[at][i+1]
			start := max(free+way, stop.From)
			if set>>i&1 == 0 && way >= 0 && start <= stop.Till && load+stop.Want <= x.Load {
				goOn(set|1<<i, i+1, load+stop.Want, start+stop.Stay, cost+way)
			}
		}
	}
	goOn(0, 0, 0, 0, 0)
	return costs
}

// slowBest tells what the cheapest plan costs; -1 if there is none. It parts the stops into a set a van.
func slowBest(x api.Instance) int {
	routes := slowRoutes(x)
	routes[0] = 0
	best := append([]int{}, routes...)
	for range x.Vans - 1 {
		next := append([]int{}, best...)
		for set := range next {
			for part := range routes {
				rest := set &^ part
				if part&^set == 0 && routes[part] >= 0 && best[rest] >= 0 && (next[set] < 0 || routes[part]+best[rest] < next[set]) {
					next[set] = routes[part] + best[rest]
				}
			}
		}
		best = next
	}
	return best[len(best)-1]
}

// The two slow ways to the cheapest plan agree.
func TestSlowBestAgainstAllPlans(t *testing.T) {
	r := rand.New(rand.NewSource(30))
	for i := range 400 {
		x := narrow(r, i%5)
		if _, least := cheapest(x); slowBest(x) != least {
			t.Fatalf("the test is wrong: slowBest(%q) = %d, want %d", textOf(x), slowBest(x), least)
		}
	}
}

// checkSolve holds the answer with the greatest budget against all that P12 says of it, and tells it and the number of nodes of its tree.
func checkSolve(t *testing.T, x api.Instance) (api.Answer, int) {
	t.Helper()
	text := textOf(x)
	z, fault := depot.Solve(text, greatestBudget)
	best := slowBest(x)
	if fault != api.OK {
		t.Fatalf("P12: Solve(%q) = %+v, %d", text, z, fault)
	}
	if best < 0 && (z.Verdict != api.Nothing || z.Plan != "none" || z.Cost != 0) {
		t.Fatalf("P12: Solve(%q) = %+v, but there is no plan", text, z)
	}
	if best >= 0 {
		cost, _, fault := slowJudge(x, z.Plan)
		if z.Verdict != api.Best || z.Cost != best || cost != best || fault != api.OK {
			t.Fatalf("P12: Solve(%q) = %+v, want the cost %d; Judge says %d, %d", text, z, best, cost, fault)
		}
	}
	if at, fault := depot.Check(text, z.Plan, z.Tree); at != 0 || fault != api.OK {
		t.Fatalf("P12: Solve(%q) = %+v: Check says %d, %d", text, z, at, fault)
	}
	nodes := strings.Count(z.Tree, "\n")
	// The slow check takes its time; Check has been held against it elsewhere.
	if nodes < 150 {
		if at, fault := slowCheck(x, z.Plan, z.Tree); at != 0 || fault != api.OK {
			t.Fatalf("P12: Solve(%q) = %+v: the slow check says %d, %d", text, z, at, fault)
		}
	}
	return z, nodes
}

// checkSpent holds an answer with a budget that is too small against P12; it tells the cost of the plan, -1 if none is told.
func checkSpent(t *testing.T, x api.Instance, budget int) int {
	t.Helper()
	text := textOf(x)
	y, fault := depot.Solve(text, budget)
	if fault != api.OK || y.Verdict != api.Spent || y.Tree != "" {
		t.Fatalf("P13: Solve(%q, %d) = %+v, %d, want Spent", text, budget, y, fault)
	}
	if y.Plan == "none" {
		if y.Cost != 0 {
			t.Fatalf("P12: Solve(%q, %d) = %+v", text, budget, y)
		}
		return -1
	}
	if cost, _, fault := slowJudge(x, y.Plan); fault != api.OK || cost != y.Cost {
		t.Fatalf("P12: Solve(%q, %d) = %+v: Judge says %d, %d", text, budget, y, cost, fault)
	}
	return y.Cost
}

// checkBudgets holds the answers with rising budgets below the greatest one against P13. It tells how many of those that were too small had a plan.
func checkBudgets(t *testing.T, x api.Instance, budgets []int) int {
	t.Helper()
	z, nodes := checkSolve(t, x)
	last, told := -1, 0
	for _, budget := range budgets {
		if budget >= nodes {
			if y, fault := depot.Solve(textOf(x), budget); fault != api.OK || y != z {
				t.Fatalf("P13: Solve(%q, %d) = %+v, %d, with the greatest budget %+v", textOf(x), budget, y, fault, z)
			}
			continue
		}
		cost := checkSpent(t, x, budget)
		if last >= 0 && (cost < 0 || cost > last) {
			t.Fatalf("P13: Solve(%q, %d) tells a plan of %d (-1: none), with a lesser budget one of %d", textOf(x), budget, cost, last)
		}
		if cost >= 0 {
			told++
			if z.Verdict != api.Best || cost < z.Cost {
				t.Fatalf("P13: Solve(%q, %d) tells a plan of %d, with the greatest budget %+v", textOf(x), budget, cost, z)
			}
		}
		last = cost
	}
	return told
}

// ringed has so many vans, and seven stops around a node, each one away from it, as is the depot: rings of stops that no van gets to are cheaper than any plan.
func ringed(vans, load, closes int) api.Instance {
	x := api.Instance{Vans: vans, Load: load, Close: closes, Nodes: 9}
	for i := range 8 {
		if i > 0 {
			x.Stops = append(x.Stops, api.Stop{Node: i, Want: 1, Till: 10000})
		}
		x.Roads = append(x.Roads, api.Road{A: i, B: 8, Len: 1}, api.Road{A: 8, B: i, Len: 1})
	}
	return x
}

// crowded has seven stops at one node, two away from the depot, and each lasts one.
func crowded(vans, closes int) api.Instance {
	x := api.Instance{Vans: vans, Load: 9, Close: closes, Nodes: 2, Roads: []api.Road{{A: 0, B: 1, Len: 2}, {A: 1, B: 0, Len: 2}}}
	for range 7 {
		x.Stops = append(x.Stops, api.Stop{Node: 1, Till: 10000, Stay: 1})
	}
	return x
}

func TestSolveExamples(t *testing.T) {
	for _, c := range []struct {
		name, text string
		verdict    int
		plans      string // one of these is told
		cost       int
	}{
		{"11", textA, api.Best, "12/3 21/3 3/12 3/21", 70},
		{"11", textB, api.Best, "1", 8},
		{"11", textC, api.Nothing, "none", 0},
		{"no way back", textD, api.Nothing, "none", 0},
		{"11, no stops", "D 1 0 0 1 0", api.Best, "", 0},
		{"no stops, three vans", "D 3 10000 10000 12 11\nR 0 11 5\n", api.Best, "", 0},
		{"one van", strings.Replace(textA, "D 2 10", "D 1 10", 1), api.Nothing, "none", 0},
		{"one van for all", strings.Replace(textA, "D 2 10", "D 1 15", 1), api.Best, "123 321", 42},
		{"one van for all, and one to spare", strings.Replace(textA, "D 2 10", "D 2 15", 1), api.Best, "123 321", 42},
		{"three vans", strings.Replace(textA, "D 2 10", "D 3 10", 1), api.Best, "12/3 21/3 3/12 3/21", 70},
		{"it closes at the last moment", strings.Replace(textA, "D 2 10 100", "D 2 10 45", 1), api.Best, "12/3 21/3 3/12 3/21", 70},
		{"it closes too early", strings.Replace(textA, "D 2 10 100", "D 2 10 44", 1), api.Nothing, "none", 0},
		{"a stop at the depot's node", "D 1 0 0 1 0\nS 0 0 0 0 0\n", api.Best, "1", 0},
		{"a stop wants too much", "D 1 0 0 1 0\nS 0 1 0 0 0\n", api.Nothing, "none", 0},
		{"a stop's stay is too long", "D 1 0 0 1 0\nS 0 0 0 0 1\n", api.Nothing, "none", 0},
		{"a stop's window is too early", "D 1 0 99 2 0\nS 1 0 0 3 0\nR 0 1 4\nR 1 0 4\n", api.Nothing, "none", 0},
		{"a stop's window is too late", "D 1 0 99 1 0\nS 0 0 100 100 0\n", api.Nothing, "none", 0},
		{"each stop wants a van", "D 2 1 9 1 0\nS 0 1 0 9 0\nS 0 1 0 9 0\nS 0 1 0 9 0\n", api.Nothing, "none", 0},
		{"each stop has a van", "D 3 1 9 1 0\nS 0 1 0 9 0\nS 0 1 0 9 0\nS 0 1 0 9 0\n", api.Best, "1/2/3 1/3/2 2/1/3 2/3/1 3/1/2 3/2/1", 0},
		{"the windows tell the order", "D 1 9 99 1 0\nS 0 1 20 20 0\nS 0 1 0 5 3\nS 0 1 6 7 1\n", api.Best, "231", 0},
		{"all at one time", "D 2 9 99 1 0\nS 0 1 5 5 1\nS 0 1 5 5 1\nS 0 1 5 5 1\n", api.Nothing, "none", 0},
		{"the longest ways", "D 1 0 10000 12 0\nS 11 0 0 10000 0\nR 0 1 10000\nR 1 2 10000\nR 2 3 10000\nR 3 4 10000\nR 4 5 10000\nR 5 6 10000\nR 6 7 10000\nR 7 8 10000\nR 8 9 10000\nR 9 10 10000\nR 10 11 10000\nR 11 0 0\n", api.Nothing, "none", 0},
	} {
		x, _, _ := slowParse(c.text)
		z, _ := checkSolve(t, x)
		if z.Verdict != c.verdict || z.Cost != c.cost || !slices.Contains(strings.Split(c.plans, " "), z.Plan) {
			t.Errorf("P12: %s: Solve(%q) = %+v, want %d, %q, %d", c.name, c.text, z, c.verdict, c.plans, c.cost)
		}
		// The text itself, whatever blanks and noughts it has.
		if y, fault := depot.Solve("  "+strings.ReplaceAll(c.text, " ", "  ")+"\n \n", greatestBudget); y != z || fault != api.OK {
			t.Errorf("P12: %s: Solve of a text with more blanks = %+v, %d, want %+v", c.name, y, fault, z)
		}
	}
	if z, fault := depot.Solve(textB, 0); fault != api.OK || z.Verdict != api.Spent || z.Tree != "" {
		t.Errorf("P12: Solve(B, 0) = %+v, %d", z, fault)
	}
}

func TestSolveRefuses(t *testing.T) {
	long := strings.Repeat("x", 2001)
	for _, c := range []struct {
		text   string
		budget int
		fault  api.Errno
	}{
		{textB, -1, api.ErrArg}, {textB, minInt, api.ErrArg}, {textB, minInt + 1, api.ErrArg}, {textB, -greatestBudget, api.ErrArg}, {textB, greatestBudget + 1, api.ErrArg}, {textB, 2 * greatestBudget, api.ErrArg}, {textB, maxInt, api.ErrArg}, {textC, -1, api.ErrArg}, {textC, greatestBudget + 1, api.ErrArg}, {"D 1 0 0 1 0", -1, api.ErrArg},
		// The error of Parse, with a budget that may be and with one that may not be.
		{"", 5, api.ErrForm}, {"", -1, api.ErrForm}, {"x", maxInt, api.ErrForm}, {textA + "x", greatestBudget, api.ErrForm}, {long, 0, api.ErrLong}, {long, -1, api.ErrLong}, {strings.Repeat(textB, 100), greatestBudget + 1, api.ErrLong}, {"D 1 5 20 2 2", 5, api.ErrBound}, {"D 1 5 20 2 2", minInt, api.ErrBound}, {textA + "R 4 0 1", -1, api.ErrBound}, {textA + strings.Repeat("S 0 1 0 5 1\n", 5), 5, api.ErrMany}, {textA + strings.Repeat("R 0 0 0\n", 33), -1, api.ErrMany},
	} {
		if z, fault := depot.Solve(c.text, c.budget); z != (api.Answer{}) || fault != c.fault {
			t.Errorf("P1, P12: Solve(%.60q, %d) = %+v, %d, want %d", c.text, c.budget, z, fault, c.fault)
		}
	}
}

// The budgets close to 0, to the number of nodes and to the greatest one.
func TestSolveAtItsBudgets(t *testing.T) {
	list := []api.Instance{ringed(1, 7, 100), ringed(3, 3, 100), ringed(3, 2, 100), crowded(1, 10)}
	for _, text := range []string{textA, textB, textC, textD, star, "D 1 0 0 1 0", strings.Replace(textA, "D 2", "D 1", 1), strings.Replace(star, "127", "100", 1)} {
		x, _, _ := slowParse(text)
		list = append(list, x)
	}
	several := 0
	for _, x := range list {
		_, nodes := checkSolve(t, x)
		if nodes > 1 {
			several++
		}
		budgets := []int{0}
		for _, budget := range []int{1, nodes / 2, nodes - 1, nodes, nodes + 1, 1 << 31, 1 << 32, greatestBudget - 1, greatestBudget} {
			if budget > budgets[len(budgets)-1] {
				budgets = append(budgets, budget)
			}
		}
		checkBudgets(t, x, budgets)
		for _, budget := range []int{-1, greatestBudget + 1} {
			if z, fault := depot.Solve(textOf(x), budget); z != (api.Answer{}) || fault != api.ErrArg {
				t.Errorf("P12: Solve(%q, %d) = %+v, %d, want ErrArg", textOf(x), budget, z, fault)
			}
		}
	}
	if several < 6 {
		t.Errorf("the test is too weak: %d trees of several nodes", several)
	}
}

func TestSolveWithEachBudget(t *testing.T) {
	r := rand.New(rand.NewSource(31))
	told, nodesInAll := 0, 0
	for i := range 300 {
		x := narrow(r, r.Intn(5))
		if i%10 == 0 {
			x = narrow(r, 7)
		}
		_, nodes := checkSolve(t, x)
		if nodes > 200 {
			continue
		}
		nodesInAll += nodes
		budgets := make([]int, nodes+3)
		for budget := range budgets {
			budgets[budget] = budget
		}
		told += checkBudgets(t, x, append(budgets, greatestBudget-1))
	}
	if told < 200 || nodesInAll < 2000 {
		t.Errorf("the test is too weak: %d plans ahead of the end, %d nodes", told, nodesInAll)
	}
}

func TestSolveOfDrawn(t *testing.T) {
	r := rand.New(rand.NewSource(32))
	verdicts, kinds, most := map[int]int{}, map[string]int{}, 0
	for i := range 1500 {
		x := narrow(r, r.Intn(8))
		switch i % 5 {
		case 0:
			x = kindInstance(r, r.Intn(8))
		case 1:
			x = randomInstance(r, []int{3, 50, 10000}[i%3])
		case 2:
			x.Roads = x.Roads[1:]
		}
		z, nodes := checkSolve(t, x)
		verdicts[z.Verdict]++
		most = max(most, nodes)
		for _, line := range strings.SplitAfter(z.Tree, "\n") {
			if line != "" {
				kinds[line[:1]]++
			}
		}
	}
	if verdicts[api.Best] < 300 || verdicts[api.Nothing] < 300 || kinds["b"] < 1000 || kinds["d"] < 500 || kinds["h"] < 500 || kinds["c"] < 500 || most < 500 {
		t.Errorf("the test is too weak: verdicts %v, nodes %v, in one tree %d", verdicts, kinds, most)
	}
}

// Each bound of the cheapest plan is drawn as close as it may be, and then by one more: it is just still the cheapest, and then is none.
func TestSolveAtTheBounds(t *testing.T) {
	r := rand.New(rand.NewSource(33))
	tried, dearer, none := 0, 0, 0
	for range 150 {
		x := kindInstance(r, 1+r.Intn(5))
		z, _ := checkSolve(t, x)
		if z.Verdict != api.Best {
			continue
		}
		tried++
		_, starts, _ := slowJudge(x, z.Plan)
		x.Load, x.Close = 0, 0
		for _, route := range strings.Split(z.Plan, "/") {
			sum := 0
			for _, digit := range route {
				sum += x.Stops[digit-'1'].Want
			}
			x.Load = max(x.Load, sum)
		}
		for _, step := range slowRides(x, slowWays(x), z.Plan) {
			if step.to == 0 {
				x.Close = max(x.Close, step.there)
			}
		}
		for i := range x.Stops {
			x.Stops[i].Till = starts[i]
		}
		if y, _ := checkSolve(t, x); y.Verdict != api.Best || y.Cost != z.Cost {
			t.Fatalf("P12: Solve(%q) = %+v, want the cost %d", textOf(x), y, z.Cost)
		}
		for _, c := range closer(x) {
			y, _ := checkSolve(t, c.x)
			switch {
			case y.Verdict == api.Nothing:
				none++
			case y.Cost > z.Cost:
				dearer++
			}
		}
	}
	if tried < 80 || dearer < 30 || none < 100 {
		t.Errorf("the test is too weak: %d plans, %d dearer, %d none", tried, dearer, none)
	}
}

// Seven stops that are all alike, and bounds that only whole routes go past: the longest trees that are known.
func TestSolveOfLongTrees(t *testing.T) {
	for _, c := range []struct {
		name    string
		x       api.Instance
		verdict int
		cost    int
	}{
		{"rings", ringed(1, 7, 10000), api.Best, 16},
		{"rings, a van closes late", ringed(1, 7, 15), api.Nothing, 0},
		{"rings, three a van", ringed(3, 3, 10000), api.Best, 20},
		{"two a van", crowded(3, 6), api.Nothing, 0},
		{"three a van", crowded(3, 7), api.Best, 12},
		{"four a van", crowded(2, 8), api.Best, 8},
	} {
		if z, nodes := checkSolve(t, c.x); z.Verdict != c.verdict || z.Cost != c.cost || nodes < 1000 {
			t.Errorf("P12: %s: %d, %q, %d and %d nodes, want %d, %d", c.name, z.Verdict, z.Plan, z.Cost, nodes, c.verdict, c.cost)
		}
	}
}

// Texts that are instances and texts that are none, with budgets of all sizes.
func TestWildBudgets(t *testing.T) {
	r := rand.New(rand.NewSource(34))
	budgets := []int{minInt, -greatestBudget, -1, 0, 1, 2, 3, 100, greatestBudget - 1, greatestBudget, greatestBudget + 1, maxInt}
	for _, text := range wildTexts(r) {
		budget := budgets[r.Intn(len(budgets))]
		_, _, want := slowParse(text)
		if want == api.OK && (budget < 0 || budget > greatestBudget) {
			want = api.ErrArg
		}
		z, fault := depot.Solve(text, budget)
		if fault != want || fault != api.OK && z != (api.Answer{}) || fault == api.OK && (z.Verdict < api.Best || z.Verdict > api.Spent) {
			t.Fatalf("P1, P12: Solve(%.80q, %d) = %+v, %d, want %d", text, budget, z, fault, want)
		}
	}
}

// A plan or a tree of one call is not kept for the next.
func TestAnswersOfSolveHangOnArgumentsAlone(t *testing.T) {
	r := rand.New(rand.NewSource(35))
	texts := []string{textA, textB, textC, textD, star, "", textA + "x", "D 1 0 0 1 0", strings.Replace(textA, "D 2 10", "D 1 10", 1), textOf(narrow(r, 4)), textOf(narrow(r, 4)), textOf(narrow(r, 5))}
	budgets := []int{-1, 0, 1, 2, 5, 9, 30, greatestBudget, greatestBudget + 1}
	told := map[string]string{}
	for range 3000 {
		text, budget := texts[r.Intn(len(texts))], budgets[r.Intn(len(budgets))]
		z, fault := depot.Solve(text, budget)
		key, answer := fmt.Sprintf("%q, %d", text, budget), fmt.Sprintf("%+v, %d", z, fault)
		if before, known := told[key]; known && before != answer {
			t.Fatalf("P2: Solve(%s) = %s, before %s", key, answer, before)
		}
		told[key] = answer
	}
}
