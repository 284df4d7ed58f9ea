package depot_test

import (
	"math/rand"
	"testing"

	"depot/api"
	"depot/depot"
)

// matchFault tells what an answer of Assign has against it; it knows no way to find one. Whether the sum is the least is shown by U and V themselves.
func matchFault(cells [][]int, m api.Match) string {
	if !m.Whole {
		if m.Cost != 0 || len(m.Column) != 0 || len(m.U) != 0 || len(m.V) != 0 {
			return "more than rows is told"
		}
		return rowsFault(cells, m.Rows)
	}
	if len(m.Rows) != 0 {
		return "rows are told"
	}
	if fault := columnsFault(cells, m.Column, m.Cost); fault != "" {
		return fault
	}
	return dualsFault(cells, m.U, m.V, m.Cost)
}

func rowsFault(cells [][]int, rows []int) string {
	columns := map[int]bool{}
	for i, row := range rows {
		if row < 0 || row >= len(cells) {
			return "a row that is none"
		}
		if i > 0 && row <= rows[i-1] {
			return "rows that do not rise"
		}
		for column, cell := range cells[row] {
			if cell != api.None {
				columns[column] = true
			}
		}
	}
	if len(columns) >= len(rows) {
		return "rows with columns enough"
	}
	return ""
}

func columnsFault(cells [][]int, columns []int, cost int) string {
	if len(columns) != len(cells) {
		return "not a column for each row"
	}
	sum := 0
	seen := map[int]bool{}
	for row, column := range columns {
		if column < 0 || column >= len(cells) || seen[column] {
			return "a column that is none, or is another row's"
		}
		seen[column] = true
		if cells[row][column] == api.None {
			return "a closed cell"
		}
		sum += cells[row][column]
	}
	if sum != cost {
		return "Cost is not the sum of the cells"
	}
	return ""
}

func dualsFault(cells [][]int, u, v []int, cost int) string {
	if len(u) != len(cells) || len(v) != len(cells) {
		return "not a number for each row and each column"
	}
	sum := 0
	for i := range cells {
		sum += u[i] + v[i]
		for _, n := range []int{u[i], v[i]} {
			if n < -100000000 || n > 100000000 {
				return "a number past MaxDual"
			}
		}
		for j, cell := range cells[i] {
			if cell != api.None && u[i]+v[j] > cell {
				return "U and V above an open cell"
			}
		}
	}
	if sum != cost {
		return "U and V together are not Cost"
	}
	return ""
}

// slowAssign takes the rows one after the other and remembers the least sum for each set of columns.
func slowAssign(cells [][]int) (int, bool) {
	least := make([]int, 1<<len(cells))
	for set := range least {
		least[set] = -1
	}
	least[0] = 0
	for _, row := range cells {
		next := make([]int, len(least))
		for set := range next {
			next[set] = -1
			for column, cell := range row {
				before := set &^ (1 << column)
				if before == set || cell < 0 || least[before] < 0 {
					continue
				}
				if sum := least[before] + cell; next[set] < 0 || sum < next[set] {
					next[set] = sum
				}
			}
		}
		least = next
	}
	end := least[len(least)-1]
	return max(end, 0), end >= 0
}

func checkAssign(t *testing.T, cells [][]int) {
	t.Helper()
	m, fault := depot.Assign(cells)
	cost, whole := slowAssign(cells)
	bad := matchFault(cells, m)
	if fault != api.OK || bad != "" || m.Whole != whole || m.Cost != cost {
		t.Fatalf("P8: Assign(%v) = %+v, %d, want %v, %d: %s", cells, m, fault, whole, cost, bad)
	}
}

// filled is a square of one number.
func filled(side, number int) [][]int {
	cells := make([][]int, side)
	for i := range cells {
		cells[i] = make([]int, side)
		for j := range cells[i] {
			cells[i][j] = number
		}
	}
	return cells
}

func TestAssignExamples(t *testing.T) {
	m, fault := depot.Assign([][]int{{4, 1}, {2, 3}})
	if fault != api.OK || !m.Whole || m.Cost != 3 || !alike(m.Column, []int{1, 0}) {
		t.Errorf("P8: %+v, %d", m, fault)
	}
	m, fault = depot.Assign([][]int{{-1, 5}, {-1, 7}})
	if fault != api.OK || m.Whole || !alike(m.Rows, []int{0, 1}) {
		t.Errorf("P8: %+v, %d", m, fault)
	}
	m, fault = depot.Assign([][]int{{5, -1}, {-1, -1}})
	if fault != api.OK || m.Whole || !alike(m.Rows, []int{1}) && !alike(m.Rows, []int{0, 1}) {
		t.Errorf("P8: %+v, %d", m, fault)
	}
}

func TestAssignOfNoRows(t *testing.T) {
	for _, cells := range [][][]int{nil, {}} {
		m, fault := depot.Assign(cells)
		if fault != api.OK || !m.Whole || m.Cost != 0 || len(m.Column)+len(m.U)+len(m.V)+len(m.Rows) != 0 {
			t.Errorf("P8: Assign(%v) = %+v, %d", cells, m, fault)
		}
	}
}

// All squares of up to three rows, of closed cells and two kinds of open ones.
func TestAssignOfAllSmallSquares(t *testing.T) {
	for side := range 4 {
		all := 1
		for range side * side {
			all *= 3
		}
		for code := range all {
			cells := filled(side, 0)
			rest := code
			for i := range cells {
				for j := range cells[i] {
					cells[i][j] = []int{-1, 0, 7}[rest%3]
					rest /= 3
				}
			}
			checkAssign(t, cells)
		}
	}
}

// Squares of all sizes: open and closed cells in all shares, costs close together and far apart.
func TestAssignOfRandomSquares(t *testing.T) {
	r := rand.New(rand.NewSource(8))
	for range 4000 {
		cells := filled(r.Intn(11), 0)
		top, shut := []int{1, 2, 5, 100, 200001}[r.Intn(5)], r.Intn(10)
		for i := range cells {
			for j := range cells[i] {
				cells[i][j] = r.Intn(top)
				if r.Intn(4) == 0 {
					cells[i][j] = []int{0, top - 1}[r.Intn(2)]
				}
				if r.Intn(10) < shut {
					cells[i][j] = -1
				}
			}
		}
		checkAssign(t, cells)
	}
}

// Squares where one choice alone is whole, so that each row of a hunt turns out another: the diagonal and the one beside it, in an order that is drawn.
func TestAssignOfLongHunts(t *testing.T) {
	r := rand.New(rand.NewSource(9))
	for range 2000 {
		side := 1 + r.Intn(10)
		cells := filled(side, -1)
		rows, columns := r.Perm(side), r.Perm(side)
		for i := range side {
			cells[rows[i]][columns[i]] = pick(r, 0, 200000)
			if i > 0 {
				cells[rows[i]][columns[i-1]] = pick(r, 0, 200000)
			}
		}
		if r.Intn(3) == 0 {
			cells[rows[0]][columns[side-1]] = pick(r, 0, 200000)
		}
		if r.Intn(3) == 0 {
			k := r.Intn(side)
			cells[rows[k]][columns[k]] = -1
		}
		checkAssign(t, cells)
	}
}

// Costs that drive U and V as far apart as they get: nought and MaxCost in turn along the only ways.
func TestAssignDualsStayInBounds(t *testing.T) {
	for _, high := range []int{0, 1} {
		for side := 1; side <= 10; side++ {
			for shift := range side {
				cells := filled(side, -1)
				for i := range side {
					cells[i][i] = 200000 * high
					cells[i][(i+1+shift)%side] = 200000 * (1 - high)
				}
				cells[side-1][0] = 200000
				checkAssign(t, cells)
				for i := range side {
					for j := range i {
						cells[i][j] = 200000
					}
				}
				checkAssign(t, cells)
			}
		}
	}
}

func TestAssignEdges(t *testing.T) {
	for _, cells := range [][][]int{
		{{0}}, {{200000}}, {{-1}}, filled(10, 0), filled(10, 200000), filled(10, -1), filled(9, 200000),
		{{-1, -1}, {0, 0}}, {{0, 0}, {-1, -1}}, {{-1, 0}, {-1, 0}}, {{0, -1}, {0, -1}}, {{200000, 0}, {0, 200000}}, {{0, 200000}, {200000, 0}},
	} {
		checkAssign(t, cells)
	}
	// One column is closed in all rows, or one row in all columns.
	for k := range 10 {
		cells := filled(10, 3)
		for i := range cells {
			cells[i][k] = -1
		}
		checkAssign(t, cells)
		cells = filled(10, 3)
		cells[k] = filled(10, -1)[0]
		checkAssign(t, cells)
	}
}

func TestAssignErrors(t *testing.T) {
	at := func(side, row, column, number int) [][]int {
		cells := filled(side, 5)
		cells[row][column] = number
		return cells
	}
	long := filled(3, 5)
	long[2] = []int{5, 5, 5, 5}
	short := filled(3, 5)
	short[1] = []int{5, 5}
	for _, x := range []struct {
		cells [][]int
		fault api.Errno
	}{
		{filled(11, 5), api.ErrCells}, {make([][]int, 11), api.ErrCells}, {make([][]int, 100000), api.ErrCells}, {make([][]int, 10), api.ErrCells}, {make([][]int, 1), api.ErrCells},
		{[][]int{{}}, api.ErrCells}, {[][]int{{1, 2}}, api.ErrCells}, {[][]int{{1}, {2}}, api.ErrCells}, {[][]int{nil, {1, 2}}, api.ErrCells}, {[][]int{{1, 2}, nil}, api.ErrCells}, {long, api.ErrCells}, {short, api.ErrCells},
		// No square, and past a bound: the error named first.
		{[][]int{{-2, 2}, {1}}, api.ErrCells}, {[][]int{{200001, -7}, {1, 2, 3}}, api.ErrCells}, {filled(11, -2), api.ErrCells}, {[][]int{{-2, 2}}, api.ErrCells},
		{at(1, 0, 0, -2), api.ErrBound}, {at(1, 0, 0, 200001), api.ErrBound}, {at(10, 9, 9, -2), api.ErrBound}, {at(10, 9, 9, 200001), api.ErrBound}, {at(10, 0, 9, 200001), api.ErrBound}, {at(10, 9, 0, -2), api.ErrBound}, {at(4, 2, 1, minInt), api.ErrBound}, {at(4, 2, 1, maxInt), api.ErrBound},
		// Past a bound where rows have too few columns already.
		{[][]int{{-1, -1}, {-1, 200001}}, api.ErrBound}, {[][]int{{-1, -1}, {-2, -1}}, api.ErrBound},
	} {
		m, fault := depot.Assign(x.cells)
		if fault != x.fault || m.Whole || m.Cost != 0 || len(m.Column)+len(m.U)+len(m.V)+len(m.Rows) != 0 {
			t.Errorf("P1, P8: Assign(%v) = %+v, %d, want %d", x.cells, m, fault, x.fault)
		}
	}
}

// Lists of all lengths, with numbers from anywhere.
func TestAssignOfWildCells(t *testing.T) {
	r := rand.New(rand.NewSource(10))
	numbers := []int{minInt, -200000, -2, -1, 0, 1, 200000, 200001, maxInt}
	for range 20000 {
		cells := make([][]int, r.Intn(13))
		want := api.OK
		spoil, ragged := r.Intn(2) == 0, r.Intn(2) == 0
		for i := range cells {
			cells[i] = make([]int, len(cells))
			if ragged && r.Intn(4) == 0 {
				cells[i] = make([]int, r.Intn(13))
			}
			for j := range cells[i] {
				cells[i][j] = r.Intn(9) - 1
				if spoil && r.Intn(12) == 0 {
					cells[i][j] = numbers[r.Intn(len(numbers))]
				}
				if cells[i][j] < -1 || cells[i][j] > 200000 {
					want = api.ErrBound
				}
			}
		}
		for i := range cells {
			if len(cells) > 10 || len(cells[i]) != len(cells) {
				want = api.ErrCells
			}
		}
		if want == api.OK {
			checkAssign(t, cells)
			continue
		}
		if m, fault := depot.Assign(cells); fault != want || m.Whole || m.Cost != 0 || len(m.Column)+len(m.U)+len(m.V)+len(m.Rows) != 0 {
			t.Fatalf("P1, P8: Assign(%v) = %+v, %d, want %d", cells, m, fault, want)
		}
	}
}
