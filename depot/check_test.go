package depot_test

import (
	"fmt"
	"math/rand"
	"strconv"
	"strings"
	"testing"

	"depot/api"
	"depot/depot"
)

// ground is a node and the arcs of the branches above it.
type ground struct {
	n              api.Node
	forced, barred []string
}

// slowGrounds tells the nodes of a tree in its order, each with its arcs, and the nodes behind that tree. A branch that is no arc of sites has nothing to tell to what is below it, nor has that to be asked.
func slowGrounds(list []api.Node, forced, barred []string) ([]ground, []api.Node) {
	grounds := []ground{{list[0], forced, barred}}
	rest := list[1:]
	if list[0].Kind != api.Branch {
		return grounds, rest
	}
	arc := fmt.Sprint(list[0].List[0]) + fmt.Sprint(list[0].List[1])
	on, rest := slowGrounds(rest, append(append([]string{}, forced...), arc), barred)
	off, rest := slowGrounds(rest, forced, append(append([]string{}, barred...), arc))
	return append(append(grounds, on...), off...), rest
}

func has(list []string, word string) bool {
	return strings.Contains(" "+strings.Join(list, " ")+" ", " "+word+" ")
}

// slowHolds asks of one node what the document asks; cost is -1 if the claim is that there is no plan.
func slowHolds(x api.Instance, cost int, g ground) bool {
	list := g.n.List
	sites := len(x.Stops) + 1
	if g.n.Kind == api.Branch {
		from, to := list[0], list[1]
		arc := strconv.Itoa(from) + strconv.Itoa(to)
		return from >= 0 && from < sites && to >= 0 && to < sites && from != to && !has(g.forced, arc) && !has(g.barred, arc)
	}
	cells, fault := slowCells(x, strings.Join(g.forced, ""), strings.Join(g.barred, ""))
	if fault != api.OK {
		return false
	}
	switch g.n.Kind {
	case api.Duals:
		return cost >= 0 && len(list) == 2*len(cells) && slowDuals(cells, list[:len(cells)], list[len(cells):], cost)
	case api.Hall:
		return rowsFault(cells, list) == ""
	}
	return slowChain(x, g.forced, list)
}

func slowDuals(cells [][]int, u, v []int, cost int) bool {
	for i := range cells {
		cost -= u[i] + v[i]
		for j := range cells {
			if cells[i][j] >= 0 && cells[i][j] < u[i]+v[j] {
				return false
			}
		}
	}
	return cost <= 0
}

func slowChain(x api.Instance, forced []string, list []int) bool {
	far := slowWays(x)
	times := map[int]int{}
	load, clock := 0, 0
	bad := false
	for i, site := range list {
		if site < 0 || site > len(x.Stops) || site == 0 && i > 0 && i < len(list)-1 {
			return false
		}
		if i > 0 {
			before := list[i-1]
			if !has(forced, strconv.Itoa(before)+strconv.Itoa(site)) {
				return false
			}
			bad = bad || far[before][site] < 0
			clock += far[before][site]
		}
		if site == 0 {
			bad = bad || clock > x.Close
			continue
		}
		stop := x.Stops[site-1]
		if i == 0 {
			clock = stop.From
		}
		times[site]++
		load += stop.Want
		clock = max(clock, stop.From)
		bad = bad || times[site] > 1 || load > x.Load || clock > stop.Till
		clock += stop.Stay
	}
	return bad
}

func slowCheck(x api.Instance, claim, tree string) (int, api.Errno) {
	cost := -1
	if claim != "none" {
		var fault api.Errno
		cost, _, fault = slowJudge(x, claim)
		if fault != api.OK {
			return 0, fault
		}
	}
	list, line, fault := slowRead(tree)
	if fault != api.OK {
		return line, fault
	}
	grounds, _ := slowGrounds(list, nil, nil)
	for i, g := range grounds {
		if !slowHolds(x, cost, g) {
			return i + 1, api.ErrNode
		}
	}
	return 0, api.OK
}

func checkCheck(t *testing.T, x api.Instance, claim, tree string) api.Errno {
	t.Helper()
	text := textOf(x)
	at, fault := depot.Check(text, claim, tree)
	wantAt, wantFault := slowCheck(x, claim, tree)
	if at != wantAt || fault != wantFault {
		t.Fatalf("P11: Check(%q, %q, %q) = %d, %d, want %d, %d", text, claim, tree, at, fault, wantAt, wantFault)
	}
	return fault
}

// checked is what Check answers.
type checked struct {
	name, text, claim, tree string
	at                      int
	fault                   api.Errno
}

func testChecked(t *testing.T, list []checked) {
	t.Helper()
	for _, c := range list {
		at, fault := depot.Check(c.text, c.claim, c.tree)
		if at != c.at || fault != c.fault {
			t.Errorf("P11: %s: Check(%.200q, %.40q, %.80q) = %d, %d, want %d, %d", c.name, c.text, c.claim, c.tree, at, fault, c.at, c.fault)
		}
	}
}

func TestCheckExamples(t *testing.T) {
	testChecked(t, []checked{
		{"9", textB, "1", "d 4 0 4 0\n", 0, api.OK},
		{"9, the sum is 7", textB, "1", "d 4 0 3 0\n", 1, api.ErrNode},
		{"9, above a cell", textB, "1", "d 4 4 0 0\n", 1, api.ErrNode},
		{"9", textB, "1", "b 0 1\nd 4 0 4 0\nh 0 1\n", 0, api.OK},
		{"9", textB, "1", "b 0 1\nh 0 1\nh 0 1\n", 2, api.ErrNode},
		{"9", textB, "1", "b 0 1\nb 0 1\nc 1\nc 1\nh 0 1\n", 2, api.ErrNode},
		{"9", textB, "none", "d 4 0 4 0\n", 1, api.ErrNode},
		{"10", textC, "none", "c 1\n", 0, api.OK},
		{"10, the arc is not forced", textC, "none", "c 0 1\n", 1, api.ErrNode},
		{"10", textC, "none", "b 0 1\nc 0 1\nh 0 1\n", 0, api.OK},
		{"10", textD, "none", "h 0\n", 0, api.OK},
		{"10", textC, "1", "c 1\n", 0, api.ErrLoad},
	})
}

func TestCheckTellsTheFirstError(t *testing.T) {
	testChecked(t, []checked{
		{"the text ahead of the claim", "", "x", "x", 0, api.ErrForm},
		{"the text ahead of the tree", textA + "x", "none", "x", 0, api.ErrForm},
		{"the text ahead of a node", textB + "R 0 2 1", "1", "h 9\n", 0, api.ErrBound},
		{"the text alone", textB + "R 0 2 1", "1", "d 4 0 4 0\n", 0, api.ErrBound},
		{"too many stops", "D 1 0 0 1 0" + strings.Repeat("\nS 0 0 0 0 0", 8), "none", "c 1\n", 0, api.ErrMany},
		{"a long text", textB + strings.Repeat(" ", 2000), "1", "d 4 0 4 0\n", 0, api.ErrLong},
		{"the claim ahead of the tree", textB, "x", "x", 0, api.ErrPlan},
		{"the claim ahead of a node", textB, "11", "h 9\n", 0, api.ErrTwice},
		{"the claim alone", textB, "", "d 4 0 4 0\n", 0, api.ErrLeft},
		{"more routes than vans", textA, "1/2/3", "d 0 0\n", 0, api.ErrVans},
		{"no way", textD, "1", "h 0\n", 0, api.ErrRoad},
		{"late", "D 1 0 7 2 0\nS 1 0 0 4 0\nR 0 1 4\nR 1 0 4", "1", "h 0\n", 0, api.ErrLate},
		{"none, in other letters", textB, "None", "d 4 0 4 0\n", 0, api.ErrPlan},
		{"none and a newline", textC, "none\n", "c 1\n", 0, api.ErrPlan},
		{"none and a blank", textC, " none", "c 1\n", 0, api.ErrPlan},
		{"part of none", textC, "non", "c 1\n", 0, api.ErrPlan},
		{"the empty plan is a plan", textC, "", "c 1\n", 0, api.ErrLeft},
		{"the tree ahead of a node", textB, "1", "h 9\nx", 2, api.ErrTree},
		{"the tree ahead of its first node", textB, "none", "b 0 0\nc 1\n", 3, api.ErrTree},
		{"no tree", textB, "1", "", 1, api.ErrTree},
		{"a tree and more", textB, "1", "d 4 0 4 0\nd 4 0 4 0\n", 2, api.ErrTree},
		{"a tree without its last newline", textB, "1", "b 0 1\nd 4 0 4 0\nh 0 1", 3, api.ErrTree},
		{"the first of two nodes", textB, "1", "b 0 1\nh 0\nh 0\n", 2, api.ErrNode},
		{"the last node", textB, "1", "b 0 1\nd 4 0 4 0\nh 0\n", 3, api.ErrNode},
	})
	for _, c := range refusals {
		if c.plan == "none" {
			continue
		}
		if at, fault := depot.Check(c.text, c.plan, "c 1\n"); at != 0 || fault != c.fault {
			t.Errorf("P11: %s: Check(%q, %q) = %d, %d, want %d", c.name, c.text, c.plan, at, fault, c.fault)
		}
	}
	for _, c := range both {
		if at, fault := depot.Check(c.text, c.plan, "x"); at != 0 || fault != c.fault {
			t.Errorf("P11: %s: Check(%q, %q) = %d, %d, want %d", c.name, c.text, c.plan, at, fault, c.fault)
		}
	}
}

func TestCheckBranches(t *testing.T) {
	testChecked(t, []checked{
		{"a site that there is not", textB, "1", "b 0 2\nc 1\nc 1\n", 1, api.ErrNode},
		{"a site that there is not", textB, "1", "b 2 0\nc 1\nc 1\n", 1, api.ErrNode},
		{"below 0", textB, "1", "b -1 0\nc 1\nc 1\n", 1, api.ErrNode},
		{"below 0", textB, "1", "b 1 -1\nc 1\nc 1\n", 1, api.ErrNode},
		{"far off", textB, "1", "b 100000000 -100000000\nc 1\nc 1\n", 1, api.ErrNode},
		{"one site twice", textB, "1", "b 0 0\nc 1\nc 1\n", 1, api.ErrNode},
		{"one stop twice", textB, "1", "b 1 1\nc 1\nc 1\n", 1, api.ErrNode},
		{"no sites but the depot", "D 1 0 0 1 0", "", "b 0 1\nd 0 0\nd 0 0\n", 1, api.ErrNode},
		{"forced already", textB, "1", "b 0 1\nb 0 1\nd 4 0 4 0\nd 4 0 4 0\nh 0 1\n", 2, api.ErrNode},
		{"barred already", textB, "1", "b 0 1\nd 4 0 4 0\nb 0 1\nh 0 1\nh 0 1\n", 3, api.ErrNode},
		{"forced two above", textB, "1", "b 0 1\nb 1 0\nb 0 1\nd 4 0 4 0\nd 4 0 4 0\nh 0\nh 0 1\n", 3, api.ErrNode},
		{"the arc back is another", textB, "1", "b 0 1\nb 1 0\nd 4 0 4 0\nh 0\nh 0 1\n", 0, api.OK},
		{"one arc on both sides of another", textB, "1", "b 0 1\nb 1 0\nd 4 0 4 0\nh 0\nb 1 0\nh 0 1\nh 0 1\n", 0, api.OK},
		{"free again on the other side", textB, "1", "b 0 1\nb 1 0\nd 4 0 4 0\nh 0\nh 0\n", 5, api.ErrNode},
		{"one arc on both sides, barred twice", textB, "1", "b 0 1\nb 1 0\nd 4 0 4 0\nh 0\nb 1 0\nh 0 1\nb 1 0\nh 0\nh 0\n", 7, api.ErrNode},
		{"the last sites", star, "1234567", "b 6 7\nc 1\nc 1\n", 2, api.ErrNode},
		{"behind the last site", star, "1234567", "b 7 8\nc 1\nc 1\n", 1, api.ErrNode},
		{"deep", textB, "1", strings.Repeat("b 0 1\n", 100000) + strings.Repeat("c 1\n", 100001), 2, api.ErrNode},
	})
}

func TestCheckDuals(t *testing.T) {
	testChecked(t, []checked{
		{"as much as the cost", "D 1 0 0 1 0", "", "d 0 0\n", 0, api.OK},
		{"above the one cell", "D 1 0 0 1 0", "", "d 1 0\n", 1, api.ErrNode},
		{"below the cost", "D 1 0 0 1 0", "", "d 0 -1\n", 1, api.ErrNode},
		{"U, then V", textB, "1", "d 8 4 0 -4\n", 0, api.OK},
		{"V, then U", textB, "1", "d 0 -4 8 4\n", 0, api.OK},
		{"not U and V by turns", textB, "1", "d 8 5 -1 -4\n", 1, api.ErrNode},
		{"closed cells do not count", textB, "1", "d 4 0 4 0\n", 0, api.OK},
		{"a closed cell below the numbers", "D 1 5 20 2 0\nS 1 3 0 20 0\nR 0 1 9\nR 1 0 4\n", "1", "d 4 0 9 0\n", 0, api.OK},
		{"above the cell of the row by one", textB, "1", "d 5 0 4 0\n", 1, api.ErrNode},
		{"above the cell of the column by one", textB, "1", "d 4 0 5 0\n", 1, api.ErrNode},
		{"above the cell of the van by one", textB, "1", "d 3 1 4 0\n", 1, api.ErrNode},
		{"too few numbers", textB, "1", "d 8 0\n", 1, api.ErrNode},
		{"too many numbers", textB, "1", "d 4 0 0 4 0 0\n", 1, api.ErrNode},
		{"the numbers of the stops alone", textA, "12/3", "d 10 15 20 10 15 20\n", 1, api.ErrNode},
		{"no plan is claimed", textC, "none", "d 4 0 4 0\n", 1, api.ErrNode},
		{"no plan is claimed, and far above", textD, "none", "d 99 0 99 0\n", 1, api.ErrNode},
		{"two vans", strings.Replace(textB, "D 1", "D 2", 1), "1", "d 4 0 0 4 0 0\n", 0, api.OK},
		{"all cells closed but those of the vans", textB, "1", "b 0 1\nd 4 0 4 0\nb 1 0\nh 0 1\nd 8 0 0 0\n", 0, api.OK},
		{"far above the cost", textB, "1", "b 0 1\nd 4 0 4 0\nb 1 0\nh 0 1\nd 100000000 0 100000000 0\n", 0, api.OK},
		{"the greatest numbers", textB, "1", "d 100000000 0 100000000 0\n", 1, api.ErrNode},
		{"the least numbers", textB, "1", "d -100000000 -100000000 -100000000 -100000000\n", 1, api.ErrNode},
	})
}

func TestCheckHall(t *testing.T) {
	testChecked(t, []checked{
		{"a row without open cells", textD, "none", "h 0\n", 0, api.OK},
		{"a row with one", textD, "none", "h 1\n", 1, api.ErrNode},
		{"both rows have one column", textD, "none", "h 0 1\n", 1, api.ErrNode},
		{"two rows, one column", textB, "1", "b 0 1\nd 4 0 4 0\nh 0 1\n", 0, api.OK},
		{"falling", textB, "1", "b 0 1\nd 4 0 4 0\nh 1 0\n", 3, api.ErrNode},
		{"a row twice", textB, "1", "b 0 1\nd 4 0 4 0\nh 0 0\n", 3, api.ErrNode},
		{"a row twice behind others", textB, "1", "b 0 1\nd 4 0 4 0\nh 0 1 1\n", 3, api.ErrNode},
		{"no such row", textB, "1", "b 0 1\nd 4 0 4 0\nh 0 1 2\n", 3, api.ErrNode},
		{"no such row", textD, "none", "h 2\n", 1, api.ErrNode},
		{"below 0", textB, "1", "b 0 1\nd 4 0 4 0\nh -1 0 1\n", 3, api.ErrNode},
		{"far off", textD, "none", "h 0 100000000\n", 1, api.ErrNode},
		{"all rows of the greatest square", star, "1234567", "h 0 1 2 3 4 5 6 7 8 9\n", 1, api.ErrNode},
		{"as many columns as rows", textA, "12/3", "h 3 4\n", 1, api.ErrNode},
		{"the rows of the vans count apart", "D 3 0 0 2 0\nS 1 0 0 0 0", "none", "h 1 2 3\n", 1, api.ErrNode},
		{"a row of a van and that of a stop", "D 3 0 0 2 0\nS 1 0 0 0 0", "none", "h 0 3\n", 1, api.ErrNode},
		{"whatever the claim costs", textB, "1", "b 1 0\nd 4 0 4 0\nh 0\n", 0, api.OK},
		{"a forced arc without a way", textD, "none", "b 1 0\nh 0\nh 0\n", 0, api.OK},
	})
}

// oneStop is a stop that is four away, with a window, a stay and a time when the depot closes.
func oneStop(from, till, stay, closes int) string {
	return fmt.Sprintf("D 1 9 %d 2 0\nS 1 1 %d %d %d\nR 0 1 4\nR 1 0 4\n", closes, from, till, stay)
}

// twoStops are one van that loads nine and two stops at the depot's node; only their wants, windows and stays are given.
func twoStops(first, second string) string {
	return "D 1 9 50 1 0\nS 0 " + first + "\nS 0 " + second + "\n"
}

func TestCheckChains(t *testing.T) {
	late := twoStops("1 10 20 5", "1 0 14 0")
	testChecked(t, []checked{
		{"one stop, too much", textC, "none", "c 1\n", 0, api.OK},
		{"one stop, as much as fits", strings.Replace(textC, "S 1 6", "S 1 5", 1), "none", "c 1\n", 1, api.ErrNode},
		{"the depot alone", textC, "none", "c 0\n", 1, api.ErrNode},
		{"the depot twice", textC, "none", "c 0 0\n", 1, api.ErrNode},
		{"no such site", textC, "none", "c 2\n", 1, api.ErrNode},
		{"below 0", textC, "none", "c -1\n", 1, api.ErrNode},
		{"far off", textC, "none", "c 100000000\n", 1, api.ErrNode},
		{"a site and none", textC, "none", "c 1 -1\n", 1, api.ErrNode},
		{"an arc that is free", textC, "none", "c 1 0\n", 1, api.ErrNode},
		{"an arc that is barred", textC, "none", "b 1 0\nc 1 0\nc 1 0\n", 3, api.ErrNode},
		{"the arc back is forced", textC, "none", "b 1 0\nc 0 1\nc 1\n", 2, api.ErrNode},
		{"the first arc is not forced", textC, "none", "b 1 0\nc 0 1 0\nc 1\n", 2, api.ErrNode},
		{"the last arc is not forced", textC, "none", "b 0 1\nc 0 1 0\nc 1\n", 2, api.ErrNode},
		{"both arcs are", textC, "none", "b 0 1\nb 1 0\nc 0 1 0\nc 1\nc 1\n", 0, api.OK},
		{"the depot between", textC, "none", "b 0 1\nb 1 0\nc 1 0 1\nc 1\nc 1\n", 3, api.ErrNode},
		{"a stop twice", twoStops("1 0 9 0", "1 0 9 0"), "none", "b 1 2\nb 2 1\nc 1 2 1\nc 1\nc 1\n", 4, api.ErrNode},
		{"the other stop twice", twoStops("1 0 9 0", "1 0 9 0"), "none", "b 1 2\nb 2 1\nc 2 1 2 1\nc 1\nc 1\n", 4, api.ErrNode},
		{"no stop twice", twoStops("1 0 9 0", "1 0 9 0"), "none", "b 1 2\nb 2 1\nc 1 2\nc 1\nc 1\n", 3, api.ErrNode},
		{"a stop on two chains is not twice in one", twoStops("1 0 9 0", "1 0 9 0"), "none", "b 1 2\nb 2 1\nc 2 1\nc 1\nc 1\n", 3, api.ErrNode},
		{"the depot at both ends is not a stop twice", oneStop(0, 9, 0, 99), "none", "b 0 1\nb 1 0\nc 0 1 0\nc 1\nc 1\n", 3, api.ErrNode},
		{"together too much", twoStops("4 0 9 0", "6 0 9 0"), "none", "b 1 2\nc 1 2\nc 1\n", 3, api.ErrNode},
		{"together as much as fits", twoStops("4 0 9 0", "5 0 9 0"), "none", "b 1 2\nc 1 2\nc 1\n", 2, api.ErrNode},
		{"together too much, on the way back", twoStops("4 0 9 0", "6 0 9 0"), "none", "b 1 2\nb 2 0\nc 1 2 0\nc 1\nc 1\n", 4, api.ErrNode},
		{"no way back", textD, "none", "b 1 0\nc 1 0\nh 0\n", 0, api.OK},
		{"a way there", textD, "none", "b 0 1\nc 0 1\nh 0\n", 2, api.ErrNode},
		{"no way between", "D 2 9 50 2 0\nS 0 0 0 50 0\nS 1 0 0 50 0\nR 1 0 1\n", "none", "b 1 2\nc 1 2\nc 1\n", 3, api.ErrNode},
		{"late at the stop by one", oneStop(0, 3, 0, 99), "none", "b 0 1\nc 0 1\nh 0 1\n", 0, api.OK},
		{"at the stop at Till", oneStop(0, 4, 0, 99), "none", "b 0 1\nc 0 1\nh 0 1\n", 2, api.ErrNode},
		{"back when it closes, as early as can be", oneStop(5, 9, 0, 9), "none", "b 1 0\nc 1 0\nh 0\n", 2, api.ErrNode},
		{"back late by one", oneStop(5, 9, 0, 8), "none", "b 1 0\nc 1 0\nh 0\n", 0, api.OK},
		{"back late by the stay", oneStop(5, 9, 1, 9), "none", "b 1 0\nc 1 0\nh 0\n", 0, api.OK},
		{"from the depot and back when it closes", oneStop(0, 9, 0, 8), "none", "b 0 1\nb 1 0\nc 0 1 0\nh 0\nh 0 1\n", 3, api.ErrNode},
		{"from the depot and back late", oneStop(0, 9, 0, 7), "none", "b 0 1\nb 1 0\nc 0 1 0\nh 0\nh 0 1\n", 0, api.OK},
		{"late alone if it comes from the depot", oneStop(0, 9, 0, 7), "none", "b 1 0\nc 1 0\nh 0\n", 2, api.ErrNode},
		{"late alone if it goes back to the depot", oneStop(0, 9, 99, 7), "none", "b 0 1\nc 0 1\nh 0 1\n", 2, api.ErrNode},
		{"the depot closes before the stop opens", oneStop(50, 60, 0, 8), "none", "b 0 1\nc 0 1\nh 0 1\n", 2, api.ErrNode},
		{"the first stop has its stay", late, "none", "b 1 2\nc 1 2\nc 1\n", 3, api.ErrNode},
		{"the first stop has its stay", twoStops("1 10 20 4", "1 0 14 0"), "none", "b 1 2\nc 1 2\nc 1\n", 2, api.ErrNode},
		{"the other way around", late, "none", "b 2 1\nc 2 1\nc 1\n", 2, api.ErrNode},
		{"a van waits between", "D 1 9 25 1 0\nS 0 1 0 9 0\nS 0 1 20 30 6\n", "none", "b 1 2\nb 2 0\nc 1 2 0\nc 1\nc 1\n", 4, api.ErrNode},
		{"a van waits between", "D 1 9 26 1 0\nS 0 1 0 9 0\nS 0 1 20 30 6\n", "none", "b 1 2\nb 2 0\nc 1 2 0\nc 1\nc 1\n", 3, api.ErrNode},
		{"whatever the claim costs", textA, "12/3", "b 2 3\nc 2 3\nd 0 0\n", 3, api.ErrNode},
		{"a part of the forced arcs", textA, "12/3", "b 1 2\nb 2 3\nc 2 3\nc 1\nc 1\n", 4, api.ErrNode},
		{"the longest chain", strings.Replace(star, "D 3 127", "D 3 126", 1), "1/234567", "b 0 1\nb 1 2\nb 2 3\nb 3 4\nb 4 5\nb 5 6\nb 6 7\nb 7 0\nc 0 1 2 3 4 5 6 7 0\n" + strings.Repeat("c 1\n", 8), 10, api.ErrNode},
		{"the longest chain, that fits", star, "1/234567", "b 0 1\nb 1 2\nb 2 3\nb 3 4\nb 4 5\nb 5 6\nb 6 7\nb 7 0\nc 0 1 2 3 4 5 6 7 0\n" + strings.Repeat("c 1\n", 8), 9, api.ErrNode},
	})
}

// grower makes trees for a claim: cost is that of the plan, or -1 if there is to be none.
type grower struct {
	r     *rand.Rand
	x     api.Instance
	cost  int
	whole bool // a leaf that holds was found everywhere
}

func (g *grower) grow(forced, barred, free []string) []api.Node {
	leaves := g.leaves(forced, barred)
	if len(leaves) > 0 && (len(free) == 0 || g.r.Intn(5) > 0) {
		return leaves[g.r.Intn(len(leaves)):][:1]
	}
	if len(free) == 0 {
		g.whole = false
		return []api.Node{node(api.Chain, 0)}
	}
	place := g.r.Intn(len(free))
	arc := free[place]
	rest := append(append([]string{}, free[:place]...), free[place+1:]...)
	list := []api.Node{node(api.Branch, int(arc[0]-'0'), int(arc[1]-'0'))}
	list = append(list, g.grow(append(append([]string{}, forced...), arc), barred, rest)...)
	return append(list, g.grow(forced, append(append([]string{}, barred...), arc), rest)...)
}

// leaves tells some leaves that hold: what Assign tells of the cells, and all chains.
func (g *grower) leaves(forced, barred []string) []api.Node {
	var list []api.Node
	cells, _ := slowCells(g.x, strings.Join(forced, ""), strings.Join(barred, ""))
	m, _ := depot.Assign(cells)
	if !m.Whole {
		list = append(list, node(api.Hall, m.Rows...))
	} else if g.cost >= 0 && m.Cost >= g.cost {
		list = append(list, node(api.Duals, append(append([]int{}, m.U...), m.V...)...))
	}
	for site := range len(g.x.Stops) + 1 {
		list = append(list, g.chains(forced, []int{site})...)
	}
	return list
}

func (g *grower) chains(forced []string, chain []int) []api.Node {
	var list []api.Node
	if slowChain(g.x, forced, chain) {
		list = append(list, node(api.Chain, append([]int{}, chain...)...))
	}
	last := chain[len(chain)-1]
	if len(chain) > 1 && last == 0 || len(chain) > len(g.x.Stops)+1 {
		return list
	}
	for _, arc := range forced {
		if arc[0] == byte('0'+last) {
			list = append(list, g.chains(forced, append(append([]int{}, chain...), int(arc[1]-'0')))...)
		}
	}
	return list
}

// cheapest looks at all plans; the cost is -1 if Judge accepts none.
func cheapest(x api.Instance) (string, int) {
	claim, least := "none", -1
	for _, plan := range allPlans(len(x.Stops)) {
		cost, _, fault := slowJudge(x, plan)
		if fault == api.OK && (least < 0 || cost < least) {
			claim, least = plan, cost
		}
	}
	return claim, least
}

// narrow draws an instance of few stops, some of which have bounds that bind.
func narrow(r *rand.Rand, stops int) api.Instance {
	x := kindInstance(r, stops)
	for i := range x.Stops {
		if r.Intn(2) == 0 {
			x.Stops[i].Till = x.Stops[i].From + r.Intn(20)
		}
	}
	switch r.Intn(3) {
	case 0:
		x.Close = r.Intn(60)
	case 1:
		x.Load = r.Intn(15)
	}
	return x
}

// Each claim that is right has a tree whose nodes all hold, whichever arcs it parts by; no other has one.
func TestCheckOfGrownTrees(t *testing.T) {
	r := rand.New(rand.NewSource(23))
	kinds := map[int]int{}
	plans, nones, wrongs := 0, 0, 0
	for range 500 {
		x := narrow(r, r.Intn(4))
		claim, cost := cheapest(x)
		g := &grower{r: r, x: x, cost: cost, whole: true}
		tree := g.grow(nil, nil, allArcs(len(x.Stops)+1))
		if fault := checkCheck(t, x, claim, treeText(tree)); fault != api.OK || !g.whole {
			t.Fatalf("P11: Check(%q, %q, %q) = %d", textOf(x), claim, treeText(tree), fault)
		}
		for _, n := range tree {
			kinds[n.Kind]++
		}
		if cost < 0 {
			nones++
			continue
		}
		plans++
		for _, plan := range append(allPlans(len(x.Stops)), "none") {
			dear, _, fault := slowJudge(x, plan)
			if plan == "none" {
				dear, fault = -1, api.OK
			}
			if fault != api.OK || dear == cost {
				continue
			}
			wrongs++
			if fault := checkCheck(t, x, plan, treeText(tree)); fault != api.ErrNode {
				t.Fatalf("P11: Check(%q, %q, %q) = %d", textOf(x), plan, treeText(tree), fault)
			}
			if r.Intn(4) == 0 {
				wrong := &grower{r: r, x: x, cost: dear}
				text := treeText(wrong.grow(nil, nil, allArcs(len(x.Stops)+1)))
				if fault := checkCheck(t, x, plan, text); fault != api.ErrNode {
					t.Fatalf("P11: Check(%q, %q, %q) = %d", textOf(x), plan, text, fault)
				}
			}
		}
	}
	if plans < 100 || nones < 100 || wrongs < 100 || kinds[api.Branch] < 1000 || kinds[api.Duals] < 200 || kinds[api.Hall] < 1000 || kinds[api.Chain] < 1000 {
		t.Errorf("%d plans, %d without, %d wrong claims, nodes %v", plans, nones, wrongs, kinds)
	}
}

// spoilNodes changes a node of a tree so that it stays a tree.
func spoilNodes(r *rand.Rand, list []api.Node) []api.Node {
	list = append([]api.Node{}, list...)
	i := r.Intn(len(list))
	n := api.Node{Kind: list[i].Kind, List: append([]int{}, list[i].List...)}
	k := r.Intn(len(n.List))
	switch r.Intn(6) {
	case 0:
		n.List[k]++
	case 1:
		n.List[k]--
	case 2:
		n.List[k] = r.Intn(9) - 1
	case 3:
		other := r.Intn(len(n.List))
		n.List[k], n.List[other] = n.List[other], n.List[k]
	case 4:
		if n.Kind == api.Hall || n.Kind == api.Chain {
			n.List = append(n.List[:k], n.List[min(k+r.Intn(2), len(n.List)):]...)
			n.List = append(n.List, r.Intn(8))[:min(9, len(n.List)+1)]
		}
	case 5:
		if other := list[r.Intn(len(list))]; n.Kind != api.Branch && other.Kind != api.Branch {
			n = other
		}
	}
	list[i] = n
	return list
}

func TestCheckOfSpoiltTrees(t *testing.T) {
	r := rand.New(rand.NewSource(24))
	told := map[api.Errno]int{}
	for range 400 {
		x := narrow(r, r.Intn(4))
		claim, cost := cheapest(x)
		g := &grower{r: r, x: x, cost: cost}
		tree := g.grow(nil, nil, allArcs(len(x.Stops)+1))
		if len(tree) > 60 {
			continue
		}
		for range 30 {
			told[checkCheck(t, x, claim, treeText(spoilNodes(r, tree)))]++
		}
		told[checkCheck(t, x, claim, spoilTree(r, treeText(tree)))]++
		told[checkCheck(t, x, spoilPlan(r, claim), treeText(tree))]++
		// Trees of the one instance for the other.
		told[checkCheck(t, narrow(r, len(x.Stops)), "none", treeText(tree))]++
	}
	if told[api.OK] < 1000 || told[api.ErrNode] < 1000 || told[api.ErrTree] < 50 || told[api.ErrPlan] < 50 {
		t.Errorf("told: %v", told)
	}
}

// One leaf, all numbers of which are small, at all places of small trees.
func TestCheckOfAllLeaves(t *testing.T) {
	x := instanceA()
	x.Stops[0].Till = 12
	above := []string{"", "b 0 1\n", "b 1 2\n", "b 0 1\nb 1 2\n", "b 3 0\nb 2 3\n", "b 1 2\nb 2 1\n"}
	for _, head := range above {
		count := strings.Count(head, "b")
		for first := -1; first < 6; first++ {
			for second := -2; second < 6; second++ {
				for third := -2; third < 6; third++ {
					leaf := " " + strconv.Itoa(first)
					for _, n := range []int{second, third} {
						if n > -2 {
							leaf += " " + strconv.Itoa(n)
						}
					}
					for _, letter := range []string{"h", "c"} {
						checkCheck(t, x, "12/3", head+strings.Repeat(letter+leaf+"\n", count+1))
						checkCheck(t, x, "none", head+strings.Repeat(letter+leaf+"\n", count+1))
					}
				}
			}
		}
	}
}

// The duals of Assign hold if they are enough; each of them may be changed by one, up or down.
func TestCheckOfDualsCloseBy(t *testing.T) {
	r := rand.New(rand.NewSource(25))
	enough, short := 0, 0
	for range 400 {
		x := kindInstance(r, r.Intn(8))
		text := textOf(x)
		plan := randomPlan(r, x)
		cost, _, fault := slowJudge(x, plan)
		if fault != api.OK {
			continue
		}
		cells, _ := slowCells(x, "", "")
		m, _ := depot.Assign(cells)
		duals := append(append([]int{}, m.U...), m.V...)
		at, fault := depot.Check(text, plan, treeText([]api.Node{node(api.Duals, duals...)}))
		if m.Cost >= cost {
			enough++
		} else {
			short++
		}
		if (fault == api.OK) != (m.Cost >= cost) || (fault == api.OK) != (at == 0) {
			t.Fatalf("P11: Check(%q, %q, %v) = %d, %d", text, plan, duals, at, fault)
		}
		for k := range duals {
			for _, by := range []int{1, -1} {
				changed := append([]int{}, duals...)
				changed[k] += by
				checkCheck(t, x, plan, treeText([]api.Node{node(api.Duals, changed...)}))
				changed[(k+1)%len(changed)] -= by
				checkCheck(t, x, plan, treeText([]api.Node{node(api.Duals, changed...)}))
			}
		}
	}
	if enough < 20 || short < 100 {
		t.Errorf("%d enough, %d short", enough, short)
	}
}
