package depot_test

import (
	"math/rand"
	"reflect"
	"strconv"
	"strings"
	"testing"

	"depot/api"
	"depot/depot"
)

// arcList tells the arcs of a text, or that it is none.
func arcList(text string, sites int) ([][2]int, bool) {
	var list [][2]int
	for text != "" {
		if len(text) == 1 {
			return nil, false
		}
		from := strings.IndexByte("01234567", text[0])
		to := strings.IndexByte("01234567", text[1])
		if from < 0 || to < 0 || from >= sites || to >= sites || from == to {
			return nil, false
		}
		list = append(list, [2]int{from, to})
		text = text[2:]
	}
	return list, true
}

// slowCells opens every cell that has a way, and then closes those that the arcs close, one arc after the other.
func slowCells(x api.Instance, forced, barred string) ([][]int, api.Errno) {
	far := slowWays(x)
	on, right := arcList(forced, len(far))
	off, rightToo := arcList(barred, len(far))
	if !right || !rightToo {
		return nil, api.ErrArcs
	}
	times := map[[2]int]int{}
	for _, list := range [][][2]int{on, off} {
		for _, arc := range list {
			times[arc]++
			if times[arc] > 1 {
				return nil, api.ErrArcs
			}
		}
	}
	n := len(x.Stops)
	side := n + x.Vans
	site := func(line int) int {
		if line < n {
			return line + 1
		}
		return 0
	}
	cells := make([][]int, side)
	for i := range cells {
		cells[i] = make([]int, side)
		for j := range cells[i] {
			cells[i][j] = far[site(i)][site(j)]
		}
	}
	for i := range n {
		cells[i][i] = -1
	}
	for i := range cells {
		for j := range cells[i] {
			for _, arc := range off {
				if site(i) == arc[0] && site(j) == arc[1] {
					cells[i][j] = -1
				}
			}
			for _, arc := range on {
				alone := (site(i) == arc[0]) != (site(j) == arc[1])
				if alone && (site(i) == arc[0] && arc[0] != 0 || site(j) == arc[1] && arc[1] != 0) {
					cells[i][j] = -1
				}
			}
		}
	}
	return cells, api.OK
}

func sameCells(x, y [][]int) bool {
	return len(x) == 0 && len(y) == 0 || reflect.DeepEqual(x, y)
}

func checkCells(t *testing.T, x api.Instance, forced, barred string) {
	t.Helper()
	text := textOf(x)
	cells, fault := depot.Cells(text, forced, barred)
	want, wantFault := slowCells(x, forced, barred)
	if fault != wantFault || !sameCells(cells, want) {
		t.Fatalf("P9: Cells(%q, %q, %q) = %v, %d, want %v, %d", text, forced, barred, cells, fault, want, wantFault)
	}
}

// allArcs tells all arcs between so many sites.
func allArcs(sites int) []string {
	var list []string
	for from := range sites {
		for to := range sites {
			if from != to {
				list = append(list, strconv.Itoa(from)+strconv.Itoa(to))
			}
		}
	}
	return list
}

func TestCellsExamples(t *testing.T) {
	for _, x := range []struct {
		text, forced, barred string
		cells                [][]int
	}{
		{textB, "", "", [][]int{{-1, 4}, {4, 0}}},
		{textB, "", "01", [][]int{{-1, 4}, {-1, 0}}},
		{textA, "12", "", [][]int{{-1, 5, -1, -1, -1}, {5, -1, 7, 15, 15}, {12, -1, -1, 20, 20}, {10, -1, 20, 0, 0}, {10, -1, 20, 0, 0}}},
		// A forced arc closes nothing in its own cell, nor in the rows and columns of the depot.
		{textB, "01", "", [][]int{{-1, 4}, {4, 0}}},
		{textB, "10", "", [][]int{{-1, 4}, {4, 0}}},
		{textB, "0110", "", [][]int{{-1, 4}, {4, 0}}},
		{textA, "01", "", [][]int{{-1, 5, 12, 10, 10}, {-1, -1, 7, 15, 15}, {-1, 7, -1, 20, 20}, {10, 15, 20, 0, 0}, {10, 15, 20, 0, 0}}},
		{textA, "10", "", [][]int{{-1, -1, -1, 10, 10}, {5, -1, 7, 15, 15}, {12, 7, -1, 20, 20}, {10, 15, 20, 0, 0}, {10, 15, 20, 0, 0}}},
		// Two arcs out of a stop, or into one, close each other's cells; out of the depot they do not.
		{textA, "1213", "", [][]int{{-1, -1, -1, -1, -1}, {5, -1, -1, 15, 15}, {12, -1, -1, 20, 20}, {10, -1, -1, 0, 0}, {10, -1, -1, 0, 0}}},
		{textA, "1232", "", [][]int{{-1, -1, -1, -1, -1}, {5, -1, 7, 15, 15}, {-1, -1, -1, -1, -1}, {10, -1, 20, 0, 0}, {10, -1, 20, 0, 0}}},
		{textA, "010203", "", [][]int{{-1, -1, -1, 10, 10}, {-1, -1, -1, 15, 15}, {-1, -1, -1, 20, 20}, {10, 15, 20, 0, 0}, {10, 15, 20, 0, 0}}},
		// A forced arc without a way stays closed.
		{textD, "10", "", [][]int{{-1, -1}, {4, 0}}},
		{textD, "", "", [][]int{{-1, -1}, {4, 0}}},
		{textB, "01", "10", [][]int{{-1, -1}, {4, 0}}},
		{"D 3 0 0 1 0", "", "", [][]int{{0, 0, 0}, {0, 0, 0}, {0, 0, 0}}},
		{"D 1 0 0 1 0", "", "", [][]int{{0}}},
		// Stops of one node, the depot's too: the way is 0, and closed alone from a stop to itself.
		{"D 1 0 0 1 0\nS 0 0 0 0 0\nS 0 0 0 0 0", "", "", [][]int{{-1, 0, 0}, {0, -1, 0}, {0, 0, 0}}},
	} {
		cells, fault := depot.Cells(x.text, x.forced, x.barred)
		if fault != api.OK || !reflect.DeepEqual(cells, x.cells) {
			t.Errorf("P9: Cells(%q, %q, %q) = %v, %d, want %v", x.text, x.forced, x.barred, cells, fault, x.cells)
		}
	}
}

func TestCellsErrors(t *testing.T) {
	seven := "D 1 0 0 1 0" + strings.Repeat("\nS 0 0 0 0 0", 7)
	for _, x := range []struct {
		text, forced, barred string
		fault                api.Errno
	}{
		{textB, "02", "", api.ErrArcs}, {textB, "01", "01", api.ErrArcs}, {textB, "0", "", api.ErrArcs}, {textB, "00", "", api.ErrArcs},
		{textB, "", "02", api.ErrArcs}, {textB, "", "20", api.ErrArcs}, {textB, "", "0", api.ErrArcs}, {textB, "", "010", api.ErrArcs}, {textB, "", "00", api.ErrArcs}, {textB, "", "11", api.ErrArcs}, {textB, "11", "", api.ErrArcs},
		{textB, "0101", "", api.ErrArcs}, {textB, "", "0101", api.ErrArcs}, {textA, "0112", "2312", api.ErrArcs}, {textA, "011223", "3001", api.ErrArcs}, {textA, "0123", "3001", api.ErrArcs},
		{textB, "01 10", "", api.ErrArcs}, {textB, "0 1", "", api.ErrArcs}, {textB, "01\n", "", api.ErrArcs}, {textB, "0/", "", api.ErrArcs}, {textB, "/0", "", api.ErrArcs}, {textB, "0:", "", api.ErrArcs}, {textB, "-1", "", api.ErrArcs}, {textB, "a0", "", api.ErrArcs}, {textB, "\x000", "", api.ErrArcs}, {textB, "0\xff", "", api.ErrArcs}, {textB, "none", "", api.ErrArcs}, {textB, "x", "x", api.ErrArcs},
		{textA, "04", "", api.ErrArcs}, {textA, "40", "", api.ErrArcs}, {textA, "", "34", api.ErrArcs}, {"D 2 0 0 1 0", "01", "", api.ErrArcs}, {"D 2 0 0 1 0", "", "00", api.ErrArcs},
		{seven, "08", "", api.ErrArcs}, {seven, "", "80", api.ErrArcs}, {seven, "9091", "", api.ErrArcs},
		{textB, strings.Repeat("01", 1000000), "", api.ErrArcs}, {textB, "", strings.Repeat("0", 1000001), api.ErrArcs},
		// The error of Parse comes first.
		{"", "x", "x", api.ErrForm}, {"", "", "", api.ErrForm}, {textA + "x", "0", "", api.ErrForm}, {textB + "R 0 2 1", "00", "", api.ErrBound}, {seven + "\nS 0 0 0 0 0", "08", "", api.ErrMany}, {textA + strings.Repeat(" ", 2000), "x", "", api.ErrLong},
	} {
		cells, fault := depot.Cells(x.text, x.forced, x.barred)
		if fault != x.fault || len(cells) != 0 {
			t.Errorf("P1, P9: Cells(%.40q, %.20q, %.20q) = %v, %d, want %d", x.text, x.forced, x.barred, cells, fault, x.fault)
		}
	}
}

// One arc, forced or barred, and two arcs, in all ways, of the sites of A.
func TestCellsOfFewArcs(t *testing.T) {
	arcs := append(allArcs(4), "")
	for _, one := range arcs {
		for _, other := range arcs {
			checkCells(t, instanceA(), one+other, "")
			checkCells(t, instanceA(), one, other)
			checkCells(t, instanceA(), "", one+other)
		}
	}
}

// All arcs of the greatest instance at once, forced, barred or half and half.
func TestCellsOfAllArcs(t *testing.T) {
	r := rand.New(rand.NewSource(11))
	for range 200 {
		x := randomInstance(r, 10000)
		all := allArcs(len(x.Stops) + 1)
		cut := r.Intn(len(all) + 1)
		checkCells(t, x, strings.Join(all, ""), "")
		checkCells(t, x, "", strings.Join(all, ""))
		checkCells(t, x, strings.Join(all[:cut], ""), strings.Join(all[cut:], ""))
	}
}

func TestCellsOfRandomArcs(t *testing.T) {
	r := rand.New(rand.NewSource(12))
	for range 6000 {
		x := randomInstance(r, 10000)
		if r.Intn(2) == 0 {
			x = kindInstance(r, 1+r.Intn(7))
		}
		all := allArcs(len(x.Stops) + 1)
		r.Shuffle(len(all), func(i, k int) { all[i], all[k] = all[k], all[i] })
		on := r.Intn(min(len(all), 6) + 1)
		off := on + r.Intn(len(all)-on+1)
		forced, barred := strings.Join(all[:on], ""), strings.Join(all[on:off], "")
		checkCells(t, x, forced, barred)
		checkCells(t, x, spoilArcs(r, forced), barred)
		checkCells(t, x, forced, spoilArcs(r, barred))
	}
}

// spoilArcs makes a text of arcs one that may be none.
func spoilArcs(r *rand.Rand, arcs string) string {
	place := r.Intn(len(arcs) + 1)
	switch r.Intn(4) {
	case 0:
		return arcs[:place]
	case 1:
		return arcs[:place] + "0123456789/: "[r.Intn(13):][:1] + arcs[place:]
	case 2:
		return arcs + arcs[place/2*2:]
	}
	raw := []byte(arcs)
	if len(raw) > 0 {
		raw[r.Intn(len(raw))] = byte(r.Intn(256))
	}
	return string(raw)
}

// Arcs of all bytes, for texts that are instances and for texts that are none.
func TestWildArcs(t *testing.T) {
	r := rand.New(rand.NewSource(13))
	wild := func() string {
		raw := make([]byte, r.Intn(5))
		for k := range raw {
			raw[k] = byte(r.Intn(256))
			if r.Intn(8) > 0 {
				raw[k] = "0123"[r.Intn(4)]
			}
		}
		return string(raw)
	}
	for _, text := range append(wildTexts(r), textA, textB, textC, textD) {
		forced, barred := wild(), wild()
		x, _, wantFault := slowParse(text)
		var want [][]int
		if wantFault == api.OK {
			want, wantFault = slowCells(x, forced, barred)
		}
		cells, fault := depot.Cells(text, forced, barred)
		if fault != wantFault || !sameCells(cells, want) {
			t.Fatalf("P1, P9: Cells(%.80q, %q, %q) = %v, %d, want %v, %d", text, forced, barred, cells, fault, want, wantFault)
		}
	}
}

// Cells may be handed on to Assign, and no plan goes below what they cost together: a plan is one choice of cells.
func TestNoPlanCostsLessThanItsCells(t *testing.T) {
	r := rand.New(rand.NewSource(14))
	accepted := 0
	for range 300 {
		x := kindInstance(r, 1+r.Intn(4))
		text := textOf(x)
		cells, fault := depot.Cells(text, "", "")
		if fault != api.OK {
			t.Fatalf("P9: Cells(%q) = %d", text, fault)
		}
		m, fault := depot.Assign(cells)
		if bad := matchFault(cells, m); fault != api.OK || bad != "" {
			t.Fatalf("P8: Assign(%v) = %+v, %d: %s", cells, m, fault, bad)
		}
		for _, plan := range allPlans(len(x.Stops)) {
			cost, _, fault := slowJudge(x, plan)
			if fault != api.OK {
				continue
			}
			accepted++
			if !m.Whole || cost < m.Cost {
				t.Fatalf("P8, P9: the plan %q of %q costs %d, its cells %+v", plan, text, cost, m)
			}
		}
	}
	if accepted < 1000 {
		t.Errorf("only %d plans were accepted", accepted)
	}
}
