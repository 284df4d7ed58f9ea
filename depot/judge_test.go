package depot_test

import (
	"math/rand"
	"reflect"
	"regexp"
	"strconv"
	"strings"
	"testing"

	"depot/api"
	"depot/depot"
)

// star has the depot in the middle and seven stops around it, each of its own length away, there and back.
const star = "D 3 127 10000 8 0\nS 1 1 0 10000 0\nS 2 2 0 10000 0\nS 3 4 0 10000 0\nS 4 8 0 10000 0\nS 5 16 0 10000 0\nS 6 32 0 10000 0\nS 7 64 0 10000 0\n" +
	"R 0 1 1\nR 1 0 1\nR 0 2 2\nR 2 0 2\nR 0 3 4\nR 3 0 4\nR 0 4 8\nR 4 0 8\nR 0 5 16\nR 5 0 16\nR 0 6 32\nR 6 0 32\nR 0 7 64\nR 7 0 64\n"

func TestJudgeAccepts(t *testing.T) {
	for _, c := range []struct {
		name, text, plan string
		cost             int
		starts           []int
	}{
		{"A", textA, "12/3", 70, []int{10, 20, 20}},
		{"A", textA, "21/3", 70, []int{25, 15, 20}},
		{"A", textA, "13/2", 72, []int{10, 15, 27}},
		{"the order of the routes", textA, "2/13", 72, []int{10, 15, 27}},
		{"B", textB, "1", 8, []int{4}},
		{"no stops, no routes", "D 1 0 0 1 0", "", 0, nil},
		{"no stops, the depot lies apart", "D 3 0 0 4 2\nR 0 1 3", "", 0, nil},
		{"the whole of the load", "D 1 3 9 1 0\nS 0 1 0 0 0\nS 0 2 0 0 0", "12", 0, []int{0, 0}},
		{"each van has its own load", "D 2 2 9 1 0\nS 0 2 0 0 0\nS 0 2 0 0 0", "2/1", 0, []int{0, 0}},
		{"each van leaves at 0", "D 2 0 8 2 0\nS 1 0 0 4 0\nS 1 0 0 4 0\nR 0 1 4\nR 1 0 4", "1/2", 16, []int{4, 4}},
		{"a start at Till, back when it closes", "D 1 0 8 2 0\nS 1 0 0 4 0\nR 0 1 4\nR 1 0 4", "1", 8, []int{4}},
		{"a van waits for From", "D 1 0 13 2 0\nS 1 0 9 9 0\nR 0 1 4\nR 1 0 4", "1", 8, []int{9}},
		{"a van that gets there at From", "D 1 0 8 2 0\nS 1 0 4 4 0\nR 0 1 4\nR 1 0 4", "1", 8, []int{4}},
		{"a stay behind a start", "D 1 0 21 3 0\nS 1 0 9 9 5\nS 2 0 0 16 1\nR 0 1 4\nR 1 2 2\nR 2 0 4", "12", 10, []int{9, 16}},
		{"waiting costs nothing", "D 1 0 10000 1 0\nS 0 0 10000 10000 0", "1", 0, []int{10000}},
		{"stops of one node", "D 1 0 9 2 0\nS 1 0 0 9 1\nS 1 0 0 9 2\nR 0 1 3\nR 1 0 3", "21", 6, []int{5, 3}},
		{"a way over a node without stop", "D 1 0 99 3 1\nS 2 0 0 99 0\nR 1 0 5\nR 0 2 6\nR 2 1 7\nR 1 2 12", "1", 18, []int{11}},
		{"the ways back are others", "D 1 0 99 2 0\nS 1 0 0 99 0\nR 0 1 3\nR 1 0 30", "1", 33, []int{3}},
		{"as many routes as vans", star, "1/2/34567", 2 + 4 + 248, []int{1, 2, 4, 16, 40, 88, 184}},
		{"one route of all stops", star, "7654321", 254, []int{253, 250, 244, 232, 208, 160, 64}},
	} {
		cost, starts, fault := depot.Judge(c.text, c.plan)
		if fault != api.OK || cost != c.cost || !alike(starts, c.starts) {
			t.Errorf("P6: %s: Judge(%q, %q) = %d, %v, %d, want %d, %v", c.name, c.text, c.plan, cost, starts, fault, c.cost, c.starts)
		}
	}
}

// alike takes a list without elements for the same, nil or not.
func alike(a, b []int) bool {
	return len(a) == len(b) && (len(a) == 0 || reflect.DeepEqual(a, b))
}

// refusals are plans that Judge does not accept.
var refusals = []struct {
	name, text, plan string
	fault            api.Errno
}{
	{"a route is missing behind", textA, "12/", api.ErrPlan},
	{"a route is missing ahead", textA, "/12", api.ErrPlan},
	{"a route is missing between", textA, "12//3", api.ErrPlan},
	{"two empty routes", textA, "/", api.ErrPlan},
	{"two empty routes of no stops", "D 1 0 0 1 0", "/", api.ErrPlan},
	{"no stop of this number", textA, "4", api.ErrPlan},
	{"the depot", textA, "1230", api.ErrPlan},
	{"the depot first", textA, "012/3", api.ErrPlan},
	{"a blank", textA, "12 3", api.ErrPlan},
	{"a newline", textA, "12/3\n", api.ErrPlan},
	{"a letter", textA, "12/c", api.ErrPlan},
	{"a byte behind the digits", textA, "12:3", api.ErrPlan},
	{"a byte ahead of the digits", textA, "12.3", api.ErrPlan},
	{"no plan", textA, "none", api.ErrPlan},
	{"a byte of the upper half", textA, "12/\xb3", api.ErrPlan},
	{"a digit of another script", textA, "12/\u0663", api.ErrPlan},
	{"a nought byte", textA, "\x00", api.ErrPlan},
	{"8 of 7 stops", star, "12345678", api.ErrPlan},
	{"9 of 7 stops", star, "1234567/9", api.ErrPlan},
	{"a digit, no stops", "D 1 0 0 1 0", "1", api.ErrPlan},
	{"a stop twice on a route", textA, "121", api.ErrTwice},
	{"a stop on two routes", textA, "1/1", api.ErrTwice},
	{"a stop three times", textB, "111", api.ErrTwice},
	{"the last stop twice", textA, "123/3", api.ErrTwice},
	{"the last stop of seven twice", star, "1234567/7", api.ErrTwice},
	{"a stop is left", textA, "12", api.ErrLeft},
	{"the first stop is left", textA, "32", api.ErrLeft},
	{"all stops are left", textA, "", api.ErrLeft},
	{"the one stop is left", textB, "", api.ErrLeft},
	{"more routes than vans", textA, "1/2/3", api.ErrVans},
	{"more routes than three vans", star, "1/2/3/4567", api.ErrVans},
	{"two routes of one van", "D 1 9 99 1 0\nS 0 0 0 9 0\nS 0 0 0 9 0", "1/2", api.ErrVans},
	{"too much for a van", textA, "1/23", api.ErrLoad},
	{"too much on the first route", textA, "23/1", api.ErrLoad},
	{"too much at one stop", textC, "1", api.ErrLoad},
	{"one too many", "D 1 2 9 1 0\nS 0 1 0 0 0\nS 0 2 0 0 0", "12", api.ErrLoad},
	{"no way back", textD, "1", api.ErrRoad},
	{"no way there", "D 1 5 20 2 0\nS 1 3 0 20 0\nR 1 0 4", "1", api.ErrRoad},
	{"no way between", "D 1 5 20 2 0\nS 1 3 0 20 0\nS 0 1 0 20 0\nR 1 0 4", "21", api.ErrRoad},
	{"no way back on the last route", "D 2 0 99 3 0\nS 1 0 0 99 0\nS 2 0 0 99 0\nR 0 1 4\nR 1 0 4\nR 0 2 1", "1/2", api.ErrRoad},
	{"no way back on the first route", "D 2 0 99 3 0\nS 1 0 0 99 0\nS 2 0 0 99 0\nR 0 1 4\nR 1 0 4\nR 0 2 1", "2/1", api.ErrRoad},
	{"A closes at 40", strings.Replace(textA, "100", "40", 1), "13/2", api.ErrLate},
	{"late at a stop by one", "D 1 0 8 2 0\nS 1 0 0 3 0\nR 0 1 4\nR 1 0 4", "1", api.ErrLate},
	{"late at the depot by one", "D 1 0 7 2 0\nS 1 0 0 4 0\nR 0 1 4\nR 1 0 4", "1", api.ErrLate},
	{"late by waiting", "D 1 0 8 2 0\nS 1 0 5 9 0\nR 0 1 4\nR 1 0 4", "1", api.ErrLate},
	{"late by the stay", "D 1 0 8 2 0\nS 1 0 0 9 1\nR 0 1 4\nR 1 0 4", "1", api.ErrLate},
	{"late by the stay at the stop before", "D 1 0 99 1 0\nS 0 0 0 9 3\nS 0 0 0 2 0", "12", api.ErrLate},
	{"late on the last route", "D 2 0 9 1 0\nS 0 0 0 9 0\nS 0 0 0 9 10", "1/2", api.ErrLate},
	{"late on the first route", "D 2 0 9 1 0\nS 0 0 0 9 0\nS 0 0 0 9 10", "2/1", api.ErrLate},
}

func TestJudgeRefuses(t *testing.T) {
	for _, c := range refusals {
		cost, starts, fault := depot.Judge(c.text, c.plan)
		if cost != 0 || len(starts) != 0 || fault != c.fault {
			t.Errorf("P6: %s: Judge(%q, %q) = %d, %v, %d, want %d", c.name, c.text, c.plan, cost, starts, fault, c.fault)
		}
	}
}

// both are plans that have two or more faults; the one told is that which the document names first, wherever it stands.
var both = []struct {
	name, text, plan string
	fault            api.Errno
}{
	{"the text ahead of the plan", "", "x", api.ErrForm},
	{"a long text ahead of the plan", strings.Repeat("x", 2001), "11", api.ErrLong},
	{"a bound ahead of the plan", "D 1 5 20 2 2", "", api.ErrBound},
	{"too many ahead of the plan", textA + strings.Repeat("S 0 1 0 5 1\n", 5), "12", api.ErrMany},
	{"no plan behind a stop twice", textA, "11/", api.ErrPlan},
	{"no plan behind a stop twice", textA, "114", api.ErrPlan},
	{"twice and left", textA, "11", api.ErrTwice},
	{"the first left, the last twice", textA, "33", api.ErrTwice},
	{"twice and vans", textB, "1/1", api.ErrTwice},
	{"left and vans", star, "1/2/3/4", api.ErrLeft},
	{"left and load", textA, "23", api.ErrLeft},
	{"vans and load", "D 1 1 0 1 0\nS 0 2 0 0 0\nS 0 2 0 0 0", "1/2", api.ErrVans},
	{"vans and road", "D 1 1 0 2 0\nS 1 0 0 0 0\nS 1 0 0 0 0", "1/2", api.ErrVans},
	{"vans and late", "D 1 0 0 1 0\nS 0 0 1 1 0\nS 0 0 1 1 0", "1/2", api.ErrVans},
	{"load behind road", "D 2 1 9 2 0\nS 1 0 0 9 0\nS 0 2 0 9 0", "1/2", api.ErrLoad},
	{"load behind late", "D 2 1 9 1 0\nS 0 0 0 9 99\nS 0 2 0 9 0", "1/2", api.ErrLoad},
	{"load and road on one route", "D 1 0 9 2 0\nS 1 1 0 9 0\nR 0 1 4", "1", api.ErrLoad},
	{"road behind late", "D 2 0 9 2 0\nS 0 0 0 9 99\nS 1 0 0 9 0", "1/2", api.ErrRoad},
	{"road behind late on one route", "D 1 0 9 2 0\nS 1 0 0 3 0\nR 0 1 4", "1", api.ErrRoad},
}

func TestJudgeTellsTheFirstFault(t *testing.T) {
	for _, c := range both {
		cost, starts, fault := depot.Judge(c.text, c.plan)
		if cost != 0 || len(starts) != 0 || fault != c.fault {
			t.Errorf("P1, P6: %s: Judge(%.60q, %q) = %d, %v, %d, want %d", c.name, c.text, c.plan, cost, starts, fault, c.fault)
		}
	}
}

// Plans that are far longer than one can be.
func TestJudgeOfLongPlans(t *testing.T) {
	for _, c := range []struct {
		name, plan string
		fault      api.Errno
	}{
		{"a stop a million times", strings.Repeat("1", 1000000), api.ErrTwice},
		{"a million routes", strings.Repeat("1/", 1000000) + "1", api.ErrTwice},
		{"a million routes and none", strings.Repeat("1/", 1000000), api.ErrPlan},
		{"a million empty routes", strings.Repeat("/", 1000000), api.ErrPlan},
		{"no stop at the end", strings.Repeat("123", 300000) + "4", api.ErrPlan},
	} {
		cost, starts, fault := depot.Judge(textA, c.plan)
		if cost != 0 || len(starts) != 0 || fault != c.fault {
			t.Errorf("P1, P6: %s: Judge = %d, %v, %d, want %d", c.name, cost, starts, fault, c.fault)
		}
	}
}

var planForm = regexp.MustCompile(`^([0-9]+(/[0-9]+)*)?$`)

// ride is one step of a route: from a site to the next, when the van gets there and when the stay begins.
type ride struct {
	route, from, to, way, there, start int
}

// slowRides tells all steps of all routes, one route after the other; a step without way lasts no time.
func slowRides(x api.Instance, far [][]int, plan string) []ride {
	var list []ride
	for i, route := range strings.Split(plan, "/") {
		at, free := 0, 0
		for _, digit := range route + "0" {
			to := int(digit - '0')
			step := ride{route: i, from: at, to: to, way: far[at][to]}
			step.there = free + max(step.way, 0)
			step.start = step.there
			if to > 0 {
				step.start = max(step.there, x.Stops[to-1].From)
				free = step.start + x.Stops[to-1].Stay
			}
			list = append(list, step)
			at = to
		}
	}
	return list
}

// slowJudge goes through the faults of P6 one by one, each over all of the plan.
func slowJudge(x api.Instance, plan string) (int, []int, api.Errno) {
	if !planForm.MatchString(plan) {
		return 0, nil, api.ErrPlan
	}
	digits := strings.ReplaceAll(plan, "/", "")
	for _, digit := range digits {
		if digit == '0' || int(digit-'0') > len(x.Stops) {
			return 0, nil, api.ErrPlan
		}
	}
	if len(digits) > len(x.Stops) {
		return 0, nil, api.ErrTwice
	}
	for i := range digits {
		if strings.Contains(digits[:i], digits[i:i+1]) {
			return 0, nil, api.ErrTwice
		}
	}
	if len(digits) < len(x.Stops) {
		return 0, nil, api.ErrLeft
	}
	if digits == "" {
		return 0, nil, api.OK
	}
	if strings.Count(plan, "/")+1 > x.Vans {
		return 0, nil, api.ErrVans
	}
	rides := slowRides(x, slowWays(x), plan)
	return slowVerdict(x, rides)
}

func slowVerdict(x api.Instance, rides []ride) (int, []int, api.Errno) {
	cost := 0
	starts := make([]int, len(x.Stops))
	load := map[int]int{}
	noWay, late := false, false
	for _, step := range rides {
		cost += step.way
		noWay = noWay || step.way == -1
		if step.to == 0 {
			late = late || step.there > x.Close
			continue
		}
		load[step.route] += x.Stops[step.to-1].Want
		late = late || step.start > x.Stops[step.to-1].Till
		starts[step.to-1] = step.start
	}
	for _, sum := range load {
		if sum > x.Load {
			return 0, nil, api.ErrLoad
		}
	}
	if noWay {
		return 0, nil, api.ErrRoad
	}
	if late {
		return 0, nil, api.ErrLate
	}
	return cost, starts, api.OK
}

// kindInstance draws an instance of which many plans are accepted.
func kindInstance(r *rand.Rand, stops int) api.Instance {
	x := api.Instance{Vans: 1 + r.Intn(3), Load: 10 + r.Intn(30), Close: 60 + r.Intn(400), Nodes: 2 + r.Intn(7)}
	x.Home = r.Intn(x.Nodes)
	for range stops {
		from := r.Intn(40) * r.Intn(2)
		x.Stops = append(x.Stops, api.Stop{Node: r.Intn(x.Nodes), Want: r.Intn(9), From: from, Till: from + 10 + r.Intn(300), Stay: r.Intn(6)})
	}
	for i := range x.Nodes {
		x.Roads = append(x.Roads, api.Road{A: i, B: (i + 1) % x.Nodes, Len: r.Intn(20)})
	}
	for range r.Intn(41 - x.Nodes) {
		x.Roads = append(x.Roads, api.Road{A: r.Intn(x.Nodes), B: r.Intn(x.Nodes), Len: r.Intn(40)})
	}
	return x
}

// randomPlan draws a plan that goes to each stop once, on up to one route more than there are vans.
func randomPlan(r *rand.Rand, x api.Instance) string {
	plan := ""
	for i, stop := range r.Perm(len(x.Stops)) {
		if i > 0 && strings.Count(plan, "/") < x.Vans && r.Intn(len(x.Stops)) < x.Vans-1 {
			plan += "/"
		}
		plan += strconv.Itoa(stop + 1)
	}
	return plan
}

// spoilPlan takes a byte out, lays one in or changes one.
func spoilPlan(r *rand.Rand, plan string) string {
	i := r.Intn(len(plan) + 1)
	extra := string("/0123456789 n\xb1"[r.Intn(14)])
	switch r.Intn(3) {
	case 0:
		return plan[:i] + extra + plan[i:]
	case 1:
		return plan[:i] + plan[min(i+1, len(plan)):]
	}
	return plan[:i] + extra + plan[min(i+1, len(plan)):]
}

func TestJudgeAgainstSlowJudge(t *testing.T) {
	r := rand.New(rand.NewSource(11))
	seen := map[api.Errno]int{}
	for i := range 40000 {
		x := kindInstance(r, r.Intn(8))
		if i%8 == 0 {
			x = randomInstance(r, []int{50, 10000}[i/8%2])
		}
		if i%8 == 1 {
			x.Roads = x.Roads[1:]
		}
		plan := randomPlan(r, x)
		if i%3 == 0 {
			plan = spoilPlan(r, plan)
		}
		cost, starts, fault := depot.Judge(textOf(x), plan)
		wantCost, wantStarts, wantFault := slowJudge(x, plan)
		seen[wantFault]++
		if cost != wantCost || !alike(starts, wantStarts) || fault != wantFault {
			t.Fatalf("P6: Judge(%q, %q) = %d, %v, %d, want %d, %v, %d", textOf(x), plan, cost, starts, fault, wantCost, wantStarts, wantFault)
		}
	}
	for _, fault := range []api.Errno{api.OK, api.ErrPlan, api.ErrTwice, api.ErrLeft, api.ErrVans, api.ErrLoad, api.ErrRoad, api.ErrLate} {
		if seen[fault] < 200 {
			t.Errorf("the test is too weak: %d plans with the answer %d", seen[fault], fault)
		}
	}
}

// Each bound of an accepted plan is drawn as close as it may be, and then by one more.
func TestJudgeAtItsBounds(t *testing.T) {
	r := rand.New(rand.NewSource(12))
	tried := 0
	for range 3000 {
		x := kindInstance(r, 1+r.Intn(7))
		plan := randomPlan(r, x)
		cost, starts, fault := slowJudge(x, plan)
		if fault != api.OK {
			continue
		}
		tried++
		load, back := 0, 0
		for _, route := range strings.Split(plan, "/") {
			sum := 0
			for _, digit := range route {
				sum += x.Stops[digit-'1'].Want
			}
			load = max(load, sum)
		}
		for _, step := range slowRides(x, slowWays(x), plan) {
			if step.to == 0 {
				back = max(back, step.there)
			}
		}
		for i := range x.Stops {
			x.Stops[i].Till = starts[i]
		}
		x.Load = load
		x.Close = back
		if got, list, fault := depot.Judge(textOf(x), plan); got != cost || !alike(list, starts) || fault != api.OK {
			t.Fatalf("P6: Judge(%q, %q) = %d, %v, %d, want %d, %v", textOf(x), plan, got, list, fault, cost, starts)
		}
		for _, c := range closer(x) {
			if got, list, fault := depot.Judge(textOf(c.x), plan); got != 0 || len(list) != 0 || fault != c.fault {
				t.Fatalf("P6: Judge(%q, %q) = %d, %v, %d, want %d", textOf(c.x), plan, got, list, fault, c.fault)
			}
		}
	}
	if tried < 500 {
		t.Errorf("the test is too weak: %d plans", tried)
	}
}

type refused struct {
	x     api.Instance
	fault api.Errno
}

// closer draws one bound of x at a time closer by one.
func closer(x api.Instance) []refused {
	var list []refused
	if x.Load > 0 {
		y := tidy(x)
		y.Load--
		list = append(list, refused{y, api.ErrLoad})
	}
	if x.Close > 0 {
		y := tidy(x)
		y.Close--
		list = append(list, refused{y, api.ErrLate})
	}
	for i := range x.Stops {
		if x.Stops[i].Till > x.Stops[i].From {
			y := tidy(x)
			y.Stops[i].Till--
			list = append(list, refused{y, api.ErrLate})
		}
	}
	return list
}
