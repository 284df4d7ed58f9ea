package depot_test

import (
	"fmt"
	"math/rand"
	"reflect"
	"strings"
	"testing"

	"depot/api"
	"depot/depot"
)

// The signatures of all calls: this file does not compile if one of them changes.
var (
	_ func(string) (api.Instance, int, api.Errno)       = depot.Parse
	_ func(api.Instance) (string, api.Errno)            = depot.Print
	_ func(string) ([][]int, api.Errno)                 = depot.Ways
	_ func(string, string) (int, []int, api.Errno)      = depot.Judge
	_ func(string, string) (string, int, api.Errno)     = depot.Improve
	_ func([][]int) (api.Match, api.Errno)              = depot.Assign
	_ func(string, string, string) ([][]int, api.Errno) = depot.Cells
	_ func(string) ([]api.Node, int, api.Errno)         = depot.Read
	_ func([]api.Node) (string, api.Errno)              = depot.Write
	_ func(string, string, string) (int, api.Errno)     = depot.Check
	_ func(string, int) (api.Answer, api.Errno)         = depot.Solve
)

// wildTexts are texts of all lengths, of few bytes and of all bytes.
func wildTexts(r *rand.Rand) []string {
	list := []string{"", "\x00", "\xff\xfe", strings.Repeat("\n", 2000), strings.Repeat("\n", 2001), strings.Repeat(" ", 1000000), strings.Repeat("D", 2000), strings.Repeat("0 ", 1000), "D 1 5 20 2 0" + strings.Repeat(" 0", 900)}
	for i := range 20000 {
		raw := make([]byte, r.Intn(60))
		for k := range raw {
			raw[k] = byte(r.Intn(256))
			if i%2 == 0 {
				raw[k] = "DSR 01\n"[r.Intn(7)]
			}
		}
		list = append(list, string(raw), "D 3 9 9 2 1\n"+string(raw), textB+string(raw))
	}
	return list
}

func TestWildTexts(t *testing.T) {
	for _, text := range wildTexts(rand.New(rand.NewSource(1))) {
		x, line, fault := depot.Parse(text)
		wantX, wantLine, wantFault := slowParse(text)
		if line != wantLine || fault != wantFault || !same(x, wantX) {
			t.Fatalf("P1, P3: Parse(%.80q) = %+v, %d, %d, want %+v, %d, %d", text, x, line, fault, wantX, wantLine, wantFault)
		}
		rows, fault := depot.Ways(text)
		if fault != wantFault || (fault != api.OK && len(rows) != 0) || (fault == api.OK && len(rows) != len(x.Stops)+1) {
			t.Fatalf("P1, P5: Ways(%.80q) = %v, %d, want %d", text, rows, fault, wantFault)
		}
	}
}

// Plans of all bytes, for texts that are instances and for texts that are none.
func TestWildPlans(t *testing.T) {
	r := rand.New(rand.NewSource(3))
	for _, text := range wildTexts(r) {
		raw := make([]byte, r.Intn(10))
		for k := range raw {
			raw[k] = byte(r.Intn(256))
			if len(text)%3 > 0 {
				raw[k] = "01/2"[r.Intn(4)]
			}
		}
		plan := string(raw)
		x, _, wantFault := slowParse(text)
		wantCost, wantStarts := 0, []int(nil)
		if wantFault == api.OK {
			wantCost, wantStarts, wantFault = slowJudge(x, plan)
		}
		cost, starts, fault := depot.Judge(text, plan)
		if cost != wantCost || !alike(starts, wantStarts) || fault != wantFault {
			t.Fatalf("P1, P6: Judge(%.80q, %q) = %d, %v, %d, want %d, %v, %d", text, plan, cost, starts, fault, wantCost, wantStarts, wantFault)
		}
		better, cost, fault := depot.Improve(text, plan)
		if fault != wantFault || cost > wantCost || (fault != api.OK && (better != "" || cost != 0)) {
			t.Fatalf("P1, P7: Improve(%.80q, %q) = %q, %d, %d, want %d", text, plan, better, cost, fault, wantFault)
		}
	}
}

func TestWildInstances(t *testing.T) {
	r := rand.New(rand.NewSource(2))
	numbers := []int{minInt, minInt + 1, -10000, -1, 0, 1, 2, 3, 4, 11, 12, 13, 10000, 10001, maxInt - 1, maxInt}
	wild := func() int { return numbers[r.Intn(len(numbers))] }
	for range 20000 {
		x := api.Instance{Vans: wild(), Load: wild(), Close: wild(), Nodes: wild(), Home: wild(), Stops: make([]api.Stop, r.Intn(10)), Roads: make([]api.Road, r.Intn(45))}
		for i := range x.Stops {
			x.Stops[i] = api.Stop{Node: wild(), Want: wild(), From: wild(), Till: wild(), Stay: wild()}
		}
		for i := range x.Roads {
			x.Roads[i] = api.Road{A: wild(), B: wild(), Len: wild()}
		}
		text, fault := depot.Print(x)
		many := len(x.Stops) > 7 || len(x.Roads) > 40
		if many != (fault == api.ErrMany) || (fault != api.OK && text != "") {
			t.Fatalf("P1, P4: Print(%+v) = %q, %d", x, text, fault)
		}
		if fault == api.OK {
			if y, _, again := depot.Parse(text); again != api.OK || !same(x, y) {
				t.Fatalf("P4: Parse of Print(%+v) = %+v, %d", x, y, again)
			}
		}
	}
}

// Where several errors apply, the answer is the one named first.
func TestFirstErrorIsTold(t *testing.T) {
	if _, line, fault := depot.Parse("S 9 x" + strings.Repeat(" ", 2000)); fault != api.ErrLong || line != 0 {
		t.Errorf("P1: long and no form: %d, %d", line, fault)
	}
	eighth := "D 1 5 20 2 0\n" + strings.Repeat("S 0 0 0 0 0\n", 7)
	if _, line, fault := depot.Parse(eighth + "S 99999 99999 9 8 x"); fault != api.ErrForm || line != 9 {
		t.Errorf("P1: no form, too many and past a bound: %d, %d", line, fault)
	}
	if _, line, fault := depot.Parse(eighth + "S 99999 99999 9 8 0"); fault != api.ErrMany || line != 9 {
		t.Errorf("P1: too many and past a bound: %d, %d", line, fault)
	}
	if _, fault := depot.Print(api.Instance{Vans: -1, Nodes: 99, Stops: make([]api.Stop, 8)}); fault != api.ErrMany {
		t.Errorf("P1: too many and past a bound: %d", fault)
	}
}

// With an error nothing of what stood ahead of it is told.
func TestErrorsComeAlone(t *testing.T) {
	for _, text := range []string{textA + "x", textA + "D 2 10 100 4 0", textA + "R 0 4 1", textA + strings.Repeat("S 0 0 0 0 0\n", 5), textA + strings.Repeat(" ", 2000)} {
		x, _, fault := depot.Parse(text)
		if fault == api.OK || !same(x, api.Instance{}) {
			t.Errorf("P1: Parse(%.200q) = %+v, %d", text, x, fault)
		}
		rows, fault := depot.Ways(text)
		if fault == api.OK || len(rows) != 0 {
			t.Errorf("P1: Ways(%.200q) = %v, %d", text, rows, fault)
		}
		cost, starts, fault := depot.Judge(text, "12/3")
		if fault == api.OK || cost != 0 || len(starts) != 0 {
			t.Errorf("P1: Judge(%.200q) = %d, %v, %d", text, cost, starts, fault)
		}
		plan, cost, fault := depot.Improve(text, "12/3")
		if fault == api.OK || cost != 0 || plan != "" {
			t.Errorf("P1: Improve(%.200q) = %q, %d, %d", text, plan, cost, fault)
		}
		cells, fault := depot.Cells(text, "12", "03")
		if fault == api.OK || len(cells) != 0 {
			t.Errorf("P1: Cells(%.200q) = %v, %d", text, cells, fault)
		}
	}
	x := instanceA()
	x.Roads[7].Len = 10001
	if text, fault := depot.Print(x); fault != api.ErrBound || text != "" {
		t.Errorf("P1: Print = %q, %d", text, fault)
	}
}

// scribble writes into the lists of x and into all of their spare room.
func scribble(x api.Instance) {
	stops := x.Stops[:cap(x.Stops)]
	for i := range stops {
		stops[i] = api.Stop{Node: 77, Want: 77, From: 77, Till: 77, Stay: 77}
	}
	roads := x.Roads[:cap(x.Roads)]
	for i := range roads {
		roads[i] = api.Road{A: 77, B: 77, Len: 77}
	}
}

func TestParseAnswersAreTheCallers(t *testing.T) {
	first, _, _ := depot.Parse(textA)
	second, _, _ := depot.Parse(textA)
	scribble(first)
	if !same(second, instanceA()) {
		t.Errorf("P2: the other answer of Parse was changed: %+v", second)
	}
	third, line, fault := depot.Parse(textA)
	if fault != api.OK || line != 0 || !same(third, instanceA()) {
		t.Errorf("P2: a later answer of Parse was changed: %+v", third)
	}
	if rows, _ := depot.Ways(textA); !reflect.DeepEqual(rows, slowWays(instanceA())) {
		t.Errorf("P2: a later answer of Ways was changed: %v", rows)
	}
}

func TestWaysAnswersAreTheCallers(t *testing.T) {
	want := slowWays(instanceA())
	second, _ := depot.Ways(textA)
	for i := range want {
		first, _ := depot.Ways(textA)
		row := first[i][:cap(first[i])]
		for k := range row {
			row[k] = 77
		}
		for k := range first {
			if k != i && !reflect.DeepEqual(first[k], want[k]) {
				t.Errorf("P2: writing into row %d changed row %d: %v", i, k, first[k])
			}
		}
	}
	first, _ := depot.Ways(textA)
	spare := first[:cap(first)]
	for i := range spare {
		spare[i] = []int{77}
	}
	if !reflect.DeepEqual(second, want) {
		t.Errorf("P2: the other answer of Ways was changed: %v", second)
	}
	if third, _ := depot.Ways(textA); !reflect.DeepEqual(third, want) {
		t.Errorf("P2: a later answer of Ways was changed: %v", third)
	}
}

func TestJudgeAnswersAreTheCallers(t *testing.T) {
	want := []int{10, 20, 20}
	_, first, _ := depot.Judge(textA, "12/3")
	_, second, _ := depot.Judge(textA, "12/3")
	spare := first[:cap(first)]
	for i := range spare {
		spare[i] = 77
	}
	if !reflect.DeepEqual(second, want) {
		t.Errorf("P2: the other answer of Judge was changed: %v", second)
	}
	if cost, third, fault := depot.Judge(textA, "12/3"); cost != 70 || fault != api.OK || !reflect.DeepEqual(third, want) {
		t.Errorf("P2: a later answer of Judge was changed: %d, %v, %d", cost, third, fault)
	}
	if plan, cost, fault := depot.Improve(textA, "13/2"); cost != 70 || fault != api.OK {
		t.Errorf("P2: a later answer of Improve was changed: %q, %d, %d", plan, cost, fault)
	}
}

// Where two stops share a node, or one the depot's, their rows are alike but not one list.
func TestWaysOfOneNodeAreSeveralLists(t *testing.T) {
	rows, _ := depot.Ways("D 1 0 0 2 0\nS 0 0 0 0 0\nS 1 0 0 0 0\nS 1 0 0 0 0\nR 0 1 4")
	rows[0][2] = 77
	rows[2][0] = 78
	if want := [][]int{{0, 0, 77, 4}, {0, 0, 4, 4}, {78, -1, 0, 0}, {-1, -1, 0, 0}}; !reflect.DeepEqual(rows, want) {
		t.Errorf("P2: rows = %v, want %v", rows, want)
	}
}

func TestPrintLeavesWhatIsHandedIn(t *testing.T) {
	for _, last := range []int{4, 10001} {
		stops := []api.Stop{{Node: 1, Want: 3, Till: 20}, {Node: 70}, {Node: 71}}
		roads := []api.Road{{A: 0, B: 1, Len: 4}, {A: 1, B: 0, Len: last}, {A: 72}, {A: 73}}
		stopsBefore := append([]api.Stop{}, stops...)
		roadsBefore := append([]api.Road{}, roads...)
		x := instanceB()
		x.Stops = stops[:1]
		x.Roads = roads[:2]
		depot.Print(x)
		if !reflect.DeepEqual(stops, stopsBefore) || !reflect.DeepEqual(roads, roadsBefore) {
			t.Errorf("P2: Print wrote into its argument: %+v, %+v", stops, roads)
		}
	}
}

func TestPrintKeepsNothing(t *testing.T) {
	x := instanceB()
	first, _ := depot.Print(x)
	x.Stops[0].Want = 5
	x.Roads[0].Len = 9
	second, _ := depot.Print(x)
	if first != textB || second != "D 1 5 20 2 0\nS 1 5 0 20 0\nR 0 1 9\nR 1 0 4\n" {
		t.Errorf("P2: Print = %q, then %q", first, second)
	}
	x.Load = 10001
	depot.Print(x)
	if again, fault := depot.Print(instanceB()); again != textB || fault != api.OK {
		t.Errorf("P2: Print behind an error = %q, %d", again, fault)
	}
}

// The same arguments get the same answer, whatever was asked between.
func TestAnswersHangOnArgumentsAlone(t *testing.T) {
	r := rand.New(rand.NewSource(6))
	texts := []string{textA, textB, textD, "", "x", textA + "x", textB + "R 9 9 9", "D 1 0 0 1 0"}
	for range 200 {
		text := texts[r.Intn(len(texts))]
		x, line, fault := depot.Parse(text)
		wantX, wantLine, wantFault := slowParse(text)
		if line != wantLine || fault != wantFault || !same(x, wantX) {
			t.Fatalf("P2: Parse(%q) = %+v, %d, %d", text, x, line, fault)
		}
		rows, fault := depot.Ways(text)
		if fault != wantFault || (fault == api.OK && !reflect.DeepEqual(rows, slowWays(wantX))) {
			t.Fatalf("P2: Ways(%q) = %v, %d", text, rows, fault)
		}
	}
}

func TestVerdictsHangOnArgumentsAlone(t *testing.T) {
	r := rand.New(rand.NewSource(7))
	texts := []string{textA, textB, textC, textD, star, "", "D 1 0 0 1 0"}
	plans := []string{"12/3", "13/2", "31/2", "1", "", "1/2/3", "1/23", "x", "1234567", "7531/642", "1357246"}
	told := map[[2]string]string{}
	for range 2000 {
		text, plan := texts[r.Intn(len(texts))], plans[r.Intn(len(plans))]
		cost, starts, fault := depot.Judge(text, plan)
		better, less, faultToo := depot.Improve(text, plan)
		answer := fmt.Sprint(cost, starts, fault, better, less, faultToo)
		if before, known := told[[2]string{text, plan}]; known && before != answer {
			t.Fatalf("P2: Judge and Improve of %q, %q: %s, before %s", text, plan, answer, before)
		}
		told[[2]string{text, plan}] = answer
	}
}

// lists are all lists of a match, with their spare room.
func lists(m api.Match) [][]int {
	return [][]int{m.Column[:cap(m.Column)], m.U[:cap(m.U)], m.V[:cap(m.V)], m.Rows[:cap(m.Rows)]}
}

var squares = [][][]int{
	{{4, 1}, {2, 3}}, {{-1, 5}, {-1, 7}}, {{5, -1}, {-1, -1}}, {{3}}, {{-1}},
	{{9, 2, 7}, {6, 4, 3}, {5, 8, 1}}, {{7, -1, -1}, {7, -1, -1}, {0, 0, 0}}, {{1, 2, 3}, {2, 4, 6}, {3, 6, 9}},
}

func copyOf(cells [][]int) [][]int {
	var list [][]int
	for _, row := range cells {
		list = append(list, append([]int{}, row...))
	}
	return list
}

// Rows are cut from the midst of longer lists, and so is the list of rows: nothing of all that may change.
func TestAssignLeavesWhatIsHandedIn(t *testing.T) {
	wrong := [][][]int{{{1, 2}, {3}}, {{1, 2}, {3, 200001}}, {{1, 2, 3}}, {{-2, 1}, {1, 1}}}
	for _, cells := range append(wrong, squares...) {
		var rows [][]int
		for _, row := range cells {
			rows = append(rows, append(append([]int{}, row...), 70, 71, 72))
		}
		rows = append(rows, []int{73}, []int{74, 75})
		before := copyOf(rows)
		handed := make([][]int, len(rows))
		for i, row := range rows {
			handed[i] = row
			if i < len(cells) {
				handed[i] = row[:len(cells[i])]
			}
		}
		depot.Assign(handed[:len(cells)])
		for i, row := range handed {
			if &row[0] != &rows[i][0] || i < len(cells) && len(row) != len(cells[i]) {
				t.Errorf("P2: Assign(%v) wrote into the list of rows: %v", cells, handed)
			}
		}
		if !reflect.DeepEqual(rows, before) {
			t.Errorf("P2: Assign(%v) wrote into a row: %v, before %v", cells, rows, before)
		}
	}
}

func TestAssignAnswersAreTheCallers(t *testing.T) {
	for _, cells := range squares {
		handed := copyOf(cells)
		want, _ := depot.Assign(copyOf(cells))
		for k := range 4 {
			first, _ := depot.Assign(handed)
			second, _ := depot.Assign(handed)
			list := lists(first)[k]
			for i := range list {
				list[i] = 77
			}
			for i, other := range [][]int{first.Column, first.U, first.V, first.Rows} {
				if i != k && !alike(other, [][]int{want.Column, want.U, want.V, want.Rows}[i]) {
					t.Errorf("P2: Assign(%v): writing into list %d changed list %d: %v", cells, k, i, other)
				}
			}
			third, _ := depot.Assign(handed)
			if !reflect.DeepEqual(second, want) || !reflect.DeepEqual(third, want) || !reflect.DeepEqual(handed, cells) {
				t.Errorf("P2: Assign(%v): writing into list %d changed %+v, %+v or %v", cells, k, second, third, handed)
			}
		}
	}
}

func TestAssignKeepsNothing(t *testing.T) {
	for _, cells := range squares {
		handed := copyOf(cells)
		want, _ := depot.Assign(copyOf(cells))
		first, _ := depot.Assign(handed)
		for _, row := range handed {
			for j := range row {
				row[j] = 200001
			}
		}
		if !reflect.DeepEqual(first, want) {
			t.Errorf("P2: writing into the cells %v changed the answer: %+v, want %+v", cells, first, want)
		}
		if _, fault := depot.Assign(handed); fault != api.ErrBound {
			t.Errorf("P2: Assign(%v) = %d", handed, fault)
		}
		if again, fault := depot.Assign(cells); fault != api.OK || !reflect.DeepEqual(again, want) {
			t.Errorf("P2: Assign(%v) behind an error = %+v, %d, want %+v", cells, again, fault, want)
		}
	}
}

// One list may be handed in as several rows.
func TestAssignOfOneListTwice(t *testing.T) {
	row := []int{3, 9, 200000, -1}
	checkAssign(t, [][]int{row, row, row, row})
	checkAssign(t, [][]int{row, row, {1, 1, 1, 1}, row})
	full := []int{3, 9, 200000}
	checkAssign(t, [][]int{full, full, full})
	if !reflect.DeepEqual(row, []int{3, 9, 200000, -1}) || !reflect.DeepEqual(full, []int{3, 9, 200000}) {
		t.Errorf("P2: Assign wrote into a row: %v, %v", row, full)
	}
}

// The rows of the vans are alike, and yet each is a list of its own.
func TestCellsAnswersAreTheCallers(t *testing.T) {
	want, _ := slowCells(instanceA(), "12", "03")
	second, _ := depot.Cells(textA, "12", "03")
	for i := range want {
		first, _ := depot.Cells(textA, "12", "03")
		row := first[i][:cap(first[i])]
		for k := range row {
			row[k] = 77
		}
		for k := range first {
			if k != i && !reflect.DeepEqual(first[k], want[k]) {
				t.Errorf("P2: writing into row %d changed row %d: %v", i, k, first[k])
			}
		}
	}
	first, _ := depot.Cells(textA, "12", "03")
	spare := first[:cap(first)]
	for i := range spare {
		spare[i] = []int{77}
	}
	if !reflect.DeepEqual(second, want) {
		t.Errorf("P2: the other answer of Cells was changed: %v", second)
	}
	if third, _ := depot.Cells(textA, "12", "03"); !reflect.DeepEqual(third, want) {
		t.Errorf("P2: a later answer of Cells was changed: %v", third)
	}
	plain, _ := slowCells(instanceA(), "", "")
	if fourth, _ := depot.Cells(textA, "", ""); !reflect.DeepEqual(fourth, plain) {
		t.Errorf("P2: arcs of an earlier call were kept: %v", fourth)
	}
}

func TestSquaresHangOnArgumentsAlone(t *testing.T) {
	r := rand.New(rand.NewSource(15))
	texts := []string{textA, textB, textD, star, "", "D 1 0 0 1 0"}
	arcs := []string{"", "01", "10", "12", "0112", "2130", "00", "x", "57"}
	told := map[string]string{}
	for range 3000 {
		text, forced, barred := texts[r.Intn(len(texts))], arcs[r.Intn(len(arcs))], arcs[r.Intn(len(arcs))]
		cells, fault := depot.Cells(text, forced, barred)
		m, faultToo := depot.Assign(cells)
		depot.Assign(squares[r.Intn(len(squares))])
		key, answer := fmt.Sprintf("%q %q %q", text, forced, barred), fmt.Sprint(cells, fault, m, faultToo)
		if before, known := told[key]; known && before != answer {
			t.Fatalf("P2: Cells(%s), and Assign of it: %s, before %s", key, answer, before)
		}
		told[key] = answer
	}
}

// Trees of all bytes, and of the bytes that trees have, for texts that are instances and for texts that are none.
func TestWildTrees(t *testing.T) {
	r := rand.New(rand.NewSource(26))
	wild := func() string {
		raw := make([]byte, r.Intn(24))
		for k := range raw {
			raw[k] = byte(r.Intn(256))
			if r.Intn(40) > 0 {
				raw[k] = "bcdh   0011-\n\n\n"[r.Intn(15)]
			}
		}
		if r.Intn(3) > 0 {
			return treeText(randomTree(r, r.Intn(4), 3)) + string(raw[:r.Intn(len(raw)+1)/8])
		}
		return string(raw)
	}
	claims := []string{"none", "none", "1", "12", "12/3", "", "x", "none1", "\x00"}
	for _, text := range append(wildTexts(r), textA, textB, textC, textD) {
		tree, claim := wild(), claims[r.Intn(len(claims))]
		checkRead(t, tree)
		x, _, wantFault := slowParse(text)
		wantAt := 0
		if wantFault == api.OK {
			wantAt, wantFault = slowCheck(x, claim, tree)
		}
		if at, fault := depot.Check(text, claim, tree); at != wantAt || fault != wantFault {
			t.Fatalf("P1, P11: Check(%.80q, %q, %q) = %d, %d, want %d, %d", text, claim, tree, at, fault, wantAt, wantFault)
		}
	}
}

func TestWildNodes(t *testing.T) {
	r := rand.New(rand.NewSource(27))
	numbers := []int{minInt, minInt + 1, -100000001, -100000000, -1, 0, 1, 2, 3, 100000000, 100000001, maxInt - 1, maxInt}
	kinds := []int{minInt, -1, 0, 1, 2, 3, 4, 4, 4, 5, maxInt}
	for range 50000 {
		list := make([]api.Node, r.Intn(4))
		right := true
		for i := range list {
			list[i].Kind = kinds[r.Intn(len(kinds))]
			right = right && list[i].Kind >= 1 && list[i].Kind <= 4
			for range r.Intn(4) {
				n := numbers[r.Intn(len(numbers))]
				list[i].List = append(list[i].List, n)
				right = right && n >= -100000000 && n <= 100000000
			}
		}
		want, wantFault := "", api.ErrTree
		if right {
			want = treeText(list)
			_, _, wantFault = slowRead(want)
		}
		if wantFault != api.OK {
			want = ""
		}
		if text, fault := depot.Write(list); text != want || fault != wantFault {
			t.Fatalf("P1, P10: Write(%v) = %q, %d, want %q, %d", list, text, fault, want, wantFault)
		}
	}
}

const treeOfAllKinds = "b 0 1\nb 1 2\nd 1 2 3 4 5 6\nh 0 1 2\nb 2 0\nc 1 2 0\nc 3\n"

// Each node's list is one of its own, and so is the list of nodes.
func TestReadAnswersAreTheCallers(t *testing.T) {
	for _, text := range []string{treeOfAllKinds, "b 1 1\nc 1\nc 1\n", "h 1 2 3\n", strings.Repeat("b 4 4\nc 4\n", 50) + "c 4\n"} {
		want, _, _ := slowRead(text)
		second, _, _ := depot.Read(text)
		for i := range want {
			first, _, _ := depot.Read(text)
			list := first[i].List[:cap(first[i].List)]
			for k := range list {
				list[k] = 77
			}
			for k := range first {
				if k != i && !alike(first[k].List, want[k].List) {
					t.Errorf("P2: Read(%q): writing into node %d changed node %d: %v", text, i, k, first[k])
				}
			}
		}
		first, _, _ := depot.Read(text)
		spare := first[:cap(first)]
		for i := range spare {
			spare[i] = node(77, 77)
		}
		if !sameNodes(second, want) {
			t.Errorf("P2: the other answer of Read(%q) was changed: %v", text, second)
		}
		if third, line, fault := depot.Read(text); fault != api.OK || line != 0 || !sameNodes(third, want) {
			t.Errorf("P2: a later answer of Read(%q) was changed: %v", text, third)
		}
		if written, fault := depot.Write(second); fault != api.OK || written != text {
			t.Errorf("P2: a later answer of Write was changed: %q, %d, want %q", written, fault, text)
		}
	}
}

// The nodes and their numbers are cut from the midst of longer lists: nothing of all that may change.
func TestWriteLeavesWhatIsHandedIn(t *testing.T) {
	for _, text := range []string{treeOfAllKinds, "c 1\n", "c 1\nc 1\n", "b 0 1\nc 1\n", "d 1 2\nx 5\n"} {
		var whole []api.Node
		var numbers, before [][]int
		for _, line := range strings.SplitAfter(text, "\n") {
			n, _ := slowNode(line)
			long := append(append([]int{}, n.List...), 70, 71, 72)
			numbers = append(numbers, long)
			before = append(before, append([]int{}, long...))
			whole = append(whole, node(n.Kind, long[:len(n.List)]...))
		}
		kinds := make([]int, len(whole))
		for i, n := range whole {
			kinds[i] = n.Kind
		}
		depot.Write(whole[:len(whole)-1])
		for i, n := range whole {
			if n.Kind != kinds[i] || &n.List[:1][0] != &numbers[i][0] || len(n.List) != len(numbers[i])-3 {
				t.Errorf("P2: Write wrote into the list of nodes of %q: %v", text, whole)
			}
		}
		if !reflect.DeepEqual(numbers, before) {
			t.Errorf("P2: Write wrote into the numbers of %q: %v, before %v", text, numbers, before)
		}
	}
}

func TestWriteKeepsNothing(t *testing.T) {
	list, _, _ := slowRead(treeOfAllKinds)
	first, _ := depot.Write(list)
	list[3].List[0] = -5
	list[6] = node(api.Hall, 9)
	second, _ := depot.Write(list)
	if first != treeOfAllKinds || second != "b 0 1\nb 1 2\nd 1 2 3 4 5 6\nh -5 1 2\nb 2 0\nc 1 2 0\nh 9\n" {
		t.Errorf("P2: Write = %q, then %q", first, second)
	}
	depot.Write(list[:3])
	if again, fault := depot.Write([]api.Node{node(api.Chain, 1)}); again != "c 1\n" || fault != api.OK {
		t.Errorf("P2: Write behind an error = %q, %d", again, fault)
	}
}

// One list may be handed in as the numbers of several nodes.
func TestWriteOfOneListTwice(t *testing.T) {
	list := []int{3, -4}
	if text, fault := depot.Write([]api.Node{{Kind: api.Branch, List: list}, {Kind: api.Duals, List: list}, {Kind: api.Hall, List: list}}); text != "b 3 -4\nd 3 -4\nh 3 -4\n" || fault != api.OK {
		t.Errorf("P10: Write = %q, %d", text, fault)
	}
	if !reflect.DeepEqual(list, []int{3, -4}) {
		t.Errorf("P2: Write wrote into a list: %v", list)
	}
}

// With an error nothing of what stood ahead of it is told.
func TestTreeErrorsComeAlone(t *testing.T) {
	for _, more := range []string{"x", "\n", "c 1\n", "c 1", "b 0 1\nc 1\nc 1\n"} {
		if list, line, fault := depot.Read(treeOfAllKinds + more); fault != api.ErrTree || line != 8 || len(list) != 0 {
			t.Errorf("P1: Read = %v, %d, %d", list, line, fault)
		}
	}
	list, _, _ := slowRead(treeOfAllKinds)
	for _, wrong := range [][]api.Node{list[:6], append(list, list...), append(list[:6:6], node(api.Chain, 100000001))} {
		if text, fault := depot.Write(wrong); fault != api.ErrTree || text != "" {
			t.Errorf("P1: Write = %q, %d", text, fault)
		}
	}
}

// What the branches of one tree said is not kept for the next.
func TestTreesHangOnArgumentsAlone(t *testing.T) {
	r := rand.New(rand.NewSource(28))
	texts := []string{textA, textB, textC, textD, star, "", "D 1 0 0 1 0"}
	claims := []string{"none", "12/3", "1", "", "x", "1234567"}
	trees := []string{"", "c 1\n", "c 0 1\n", "h 0\n", "h 0 1\n", "d 4 0 4 0\n", "d 0 0\n", "b 0 1\nd 4 0 4 0\nh 0 1\n", "b 0 1\nc 0 1\nh 0 1\n", "b 0 1\nb 0 1\nc 1\nc 1\nh 0 1\n", "b 1 0\nc 1\nc 1\n", "b 0 1\nc 1\n", treeOfAllKinds}
	told := map[[3]string]string{}
	for range 10000 {
		key := [3]string{texts[r.Intn(len(texts))], claims[r.Intn(len(claims))], trees[r.Intn(len(trees))]}
		at, fault := depot.Check(key[0], key[1], key[2])
		list, line, faultToo := depot.Read(key[2])
		written, faultThen := depot.Write(list)
		answer := fmt.Sprint(at, fault, list, line, faultToo, written, faultThen)
		if before, known := told[key]; known && before != answer {
			t.Fatalf("P2: Check, Read and Write of %q: %s, before %s", key, answer, before)
		}
		told[key] = answer
	}
}
