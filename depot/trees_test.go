package depot_test

import (
	"math/rand"
	"regexp"
	"slices"
	"strconv"
	"strings"
	"testing"

	"depot/api"
	"depot/depot"
)

func node(kind int, list ...int) api.Node { return api.Node{Kind: kind, List: list} }

// sameNodes takes a list without elements for the same, nil or not.
func sameNodes(a, b []api.Node) bool {
	if len(a) != len(b) {
		return false
	}
	for i := range a {
		if a[i].Kind != b[i].Kind || !alike(a[i].List, b[i].List) {
			return false
		}
	}
	return true
}

// counting tells so many numbers, all of them different.
func counting(count int) []int {
	var list []int
	for i := range count {
		list = append(list, i*37-99)
	}
	return list
}

func countingText(count int) string {
	text := ""
	for _, n := range counting(count) {
		text += " " + strconv.Itoa(n)
	}
	return text
}

func TestTreesAndTheirTexts(t *testing.T) {
	for _, x := range []struct {
		text string
		list []api.Node
	}{
		{"b 0 -7\nc 1\nh 3\n", []api.Node{node(api.Branch, 0, -7), node(api.Chain, 1), node(api.Hall, 3)}},
		{"c 1\n", []api.Node{node(api.Chain, 1)}},
		{"h 0\n", []api.Node{node(api.Hall, 0)}},
		{"d 0 0\n", []api.Node{node(api.Duals, 0, 0)}},
		{"d -100000000 100000000\n", []api.Node{node(api.Duals, -100000000, 100000000)}},
		{"c 100000000\n", []api.Node{node(api.Chain, 100000000)}},
		{"h -100000000\n", []api.Node{node(api.Hall, -100000000)}},
		{"d 99999999 -99999999 10 -10\n", []api.Node{node(api.Duals, 99999999, -99999999, 10, -10)}},
		{"b 100000000 -100000000\nd -1 9\nc 9 0 -9\n", []api.Node{node(api.Branch, 100000000, -100000000), node(api.Duals, -1, 9), node(api.Chain, 9, 0, -9)}},
		// A branch on the first side of a branch, on the second, and on both.
		{"b 1 2\nb 3 4\nc 5\nc 6\nc 7\n", []api.Node{node(api.Branch, 1, 2), node(api.Branch, 3, 4), node(api.Chain, 5), node(api.Chain, 6), node(api.Chain, 7)}},
		{"b 1 2\nc 3\nb 4 5\nc 6\nc 7\n", []api.Node{node(api.Branch, 1, 2), node(api.Chain, 3), node(api.Branch, 4, 5), node(api.Chain, 6), node(api.Chain, 7)}},
		{"b 1 2\nb 1 2\nh 1\nh 2\nb 1 2\nd 1 2\nc 1\n", []api.Node{node(api.Branch, 1, 2), node(api.Branch, 1, 2), node(api.Hall, 1), node(api.Hall, 2), node(api.Branch, 1, 2), node(api.Duals, 1, 2), node(api.Chain, 1)}},
	} {
		checkTree(t, x.text, x.list)
	}
}

// checkTree asks for the nodes of a text, and for the text of the nodes.
func checkTree(t *testing.T, text string, list []api.Node) {
	t.Helper()
	got, line, fault := depot.Read(text)
	if fault != api.OK || line != 0 || !sameNodes(got, list) {
		t.Errorf("P10: Read(%.80q) = %.80v, %d, %d, want %.80v", text, got, line, fault, list)
	}
	written, fault := depot.Write(list)
	if fault != api.OK || written != text {
		t.Errorf("P10: Write(%.80v) = %.80q, %d, want %.80q", list, written, fault, text)
	}
}

// refuseTree asks for the faults of a text and of the nodes that it would tell.
func refuseTree(t *testing.T, text string, line int, list []api.Node) {
	t.Helper()
	got, at, fault := depot.Read(text)
	if fault != api.ErrTree || at != line || len(got) != 0 {
		t.Errorf("P10: Read(%.80q) = %.80v, %d, %d, want line %d", text, got, at, fault, line)
	}
	if written, fault := depot.Write(list); fault != api.ErrTree || written != "" {
		t.Errorf("P10: Write(%.80v) = %.80q, %d", list, written, fault)
	}
}

// How many numbers the nodes of each kind have.
func TestCountsOfNumbers(t *testing.T) {
	may := map[int][]int{api.Branch: {2}, api.Duals: {2, 4, 6, 8, 10, 12, 14, 16, 18, 20}, api.Hall: {1, 2, 3, 4, 5, 6, 7, 8, 9, 10}, api.Chain: {1, 2, 3, 4, 5, 6, 7, 8, 9}}
	for kind, letter := range map[int]string{api.Branch: "b", api.Duals: "d", api.Hall: "h", api.Chain: "c"} {
		fits := map[int]bool{}
		for _, count := range may[kind] {
			fits[count] = true
		}
		for count := range 45 {
			text, list := letter+countingText(count)+"\n", []api.Node{node(kind, counting(count)...)}
			if kind == api.Branch {
				text += "h 1\nd 2 3\n"
				list = append(list, node(api.Hall, 1), node(api.Duals, 2, 3))
			}
			if fits[count] {
				checkTree(t, text, list)
			} else {
				refuseTree(t, text, 1, list)
			}
		}
	}
}

// The numbers that may be, and the words that are none; in each place of a node.
func TestNumbersOfTrees(t *testing.T) {
	right := []string{"0", "1", "9", "10", "-1", "-9", "-10", "12345678", "99999999", "100000000", "-99999999", "-100000000", "90000001", "-60000006"}
	wrong := []string{"", "-", "--1", "-0", "00", "01", "-01", "+1", "+0", "1-", "1-1", "0x1", "1e3", "1.", "1.0", "1_0", "a", "/", ":", "\t1", "1\t", "1\r", "\x00", "1\x00", "\xb2", "\u0661", "100000001", "-100000001", "200000000", "999999999", "1000000000", "-1000000000", "0100000000", "18446744073709551616", "18446744073709551617", "-9223372036854775808", strings.Repeat("0", 20), strings.Repeat("1", 100000), "-" + strings.Repeat("9", 100000)}
	for place := range 4 {
		for _, word := range append(right, wrong...) {
			words := []string{"5", "-6", "7", "8"}
			words[place] = word
			text := "d " + strings.Join(words, " ") + "\n"
			got, line, fault := depot.Read(text)
			value, err := strconv.Atoi(word)
			if slices.Contains(right, word) {
				list := []int{5, -6, 7, 8}
				list[place] = value
				if err != nil || fault != api.OK || line != 0 || !sameNodes(got, []api.Node{node(api.Duals, list...)}) {
					t.Errorf("P10: Read(%q) = %v, %d, %d", text, got, line, fault)
				}
			} else if fault != api.ErrTree || line != 1 || len(got) != 0 {
				t.Errorf("P10: Read(%.80q) = %v, %d, %d, want ErrTree and 1", text, got, line, fault)
			}
		}
	}
}

func TestReadTellsTheLine(t *testing.T) {
	for _, x := range []struct {
		text string
		line int
	}{
		// Those of the document.
		{"", 1}, {"c 1\nc 1\n", 2}, {"b 0 1\nc 1\n", 3}, {"h 0", 1}, {"h 00\n", 1}, {"h -0\n", 1}, {"h  0\n", 1}, {"d 1\n", 1}, {"h\n", 1},
		// No node's lines.
		{"\n", 1}, {"\n\n", 1}, {"x\n", 1}, {" \n", 1}, {" c 1\n", 1}, {"c 1 \n", 1}, {"c  1\n", 1}, {"c 1  2\n", 1}, {"c1\n", 1}, {"c,1\n", 1}, {"c\t1\n", 1}, {"c 1\r\n", 1}, {"cc 1\n", 1}, {"C 1\n", 1}, {"B 0 1\n", 1}, {"a 1\n", 1}, {"e 1\n", 1}, {"1\n", 1}, {"4 1\n", 1}, {"c\n", 1}, {"c \n", 1}, {"d\n", 1}, {"b\n", 1}, {"b 0\n", 1}, {"b 0 1 2\n", 1}, {"\x00\n", 1}, {"\xff 1\n", 1},
		// A line that is wrong behind some that are right.
		{"b 0 1\nx\n", 2}, {"b 0 1\nc 1\nx\n", 3}, {"b 0 1\n\nc 1\nc 1\n", 2}, {"b 0 1\nc 1\nx\ny\n", 3}, {"b 0 1\nx\nc 1\nc 1\n", 2}, {"b 0 1\nb 0\nb 0 1", 2},
		// The newline is missing.
		{"c 1", 1}, {"c", 1}, {"x", 1}, {" ", 1}, {"b 0 1", 1}, {"b 0 1\nc 1", 2}, {"b 0 1\nc 1\nc 1", 3}, {"b 0 1\nc 1\nx", 3}, {"b 0 1\nc", 2},
		// The tree was whole already.
		{"c 1\n\n", 2}, {"c 1\nx\n", 2}, {"c 1\nx", 2}, {"c 1\nc 1", 2}, {"c 1\nb 0 1\nc 1\nc 1\n", 2}, {"h 1\n\nx\n", 2}, {"d 1 1\n ", 2}, {"b 0 1\nc 1\nc 1\nc 1\n", 4}, {"b 0 1\nc 1\nc 1\n\n", 4}, {"b 0 1\nc 1\nc 1\nb 0 1", 4}, {"c 1\nh 00\n", 2}, {"c 1\n\x00", 2},
		// Trees are missing.
		{"b 0 1\n", 2}, {"b 0 1\nb 0 1\nc 1\nc 1\n", 5}, {"b 0 1\nc 1\nb 0 1\n", 4}, {"b 0 1\nc 1\nb 0 1\nc 1\n", 5}, {"b 0 1\nb 0 1\nb 0 1\n", 4},
	} {
		list, line, fault := depot.Read(x.text)
		if fault != api.ErrTree || line != x.line || len(list) != 0 {
			t.Errorf("P10: Read(%q) = %v, %d, %d, want ErrTree and %d", x.text, list, line, fault, x.line)
		}
	}
}

func TestWriteErrors(t *testing.T) {
	leaf, part := node(api.Chain, 1), node(api.Branch, 0, 1)
	for _, list := range [][]api.Node{
		nil, {},
		// Kinds that are none.
		{{}}, {node(0, 1)}, {node(0, 1, 2)}, {node(5, 1)}, {node(-1, 1)}, {node(-1, 1, 2)}, {node(minInt, 1)}, {node(maxInt, 1)}, {part, leaf, node(5, 1)}, {part, node(0, 1), leaf},
		// Numbers that may not be.
		{node(api.Chain, 100000001)}, {node(api.Chain, -100000001)}, {node(api.Hall, minInt)}, {node(api.Hall, maxInt)}, {node(api.Duals, 0, 100000001)}, {node(api.Duals, -100000001, 0)}, {node(api.Branch, 0, 100000001), leaf, leaf}, {part, leaf, node(api.Chain, 1, 2, minInt)},
		// Too many trees, and too few.
		{leaf, leaf}, {part}, {part, leaf}, {part, leaf, leaf, leaf}, {part, part, leaf, leaf}, {leaf, part, leaf}, {leaf, part, leaf, leaf}, {part, leaf, leaf, part, leaf, leaf}, {part, part, leaf, part, leaf},
		// A node that is none behind a tree that is whole.
		{leaf, {}}, {leaf, node(api.Duals, 1)},
	} {
		if text, fault := depot.Write(list); fault != api.ErrTree || text != "" {
			t.Errorf("P10: Write(%v) = %q, %d", list, text, fault)
		}
	}
}

// A tree may be of any length and of any depth.
func TestLongTrees(t *testing.T) {
	const count = 300000
	leaf, part := node(api.Hall, 7), node(api.Branch, 3, 0)
	var first, second []api.Node
	for range count {
		first = append(first, part)
		second = append(second, part, leaf)
	}
	for range count {
		first = append(first, leaf)
	}
	firstText := strings.Repeat("b 3 0\n", count) + strings.Repeat("h 7\n", count)
	secondText := strings.Repeat("b 3 0\nh 7\n", count)
	checkTree(t, firstText+"h 7\n", append(first, leaf))
	checkTree(t, secondText+"h 7\n", append(second, leaf))
	refuseTree(t, firstText, 2*count+1, first)
	refuseTree(t, secondText, 2*count+1, second)
	refuseTree(t, firstText+"h 7\nh 7\n", 2*count+2, append(first, leaf, leaf))
	refuseTree(t, secondText+"h 7", 2*count+1, append(second, part))
	refuseTree(t, secondText+"h 7 \n", 2*count+1, append(second, node(api.Hall)))
}

// A line may be of any length, and the texts behind a fault too.
func TestLongLines(t *testing.T) {
	for _, x := range []struct {
		text string
		line int
	}{
		{"c " + strings.Repeat("1", 3000000) + "\n", 1}, {"d" + strings.Repeat(" 1", 3000000) + "\n", 1}, {"c" + strings.Repeat(" ", 3000000) + "\n", 1}, {strings.Repeat("c", 3000000), 1}, {strings.Repeat("\n", 3000000), 1}, {"c 1\n" + strings.Repeat("\n", 3000000), 2}, {"c 1\n" + strings.Repeat("c 1\n", 1000000), 2}, {"b 0 1\n" + strings.Repeat("x", 3000000), 2},
	} {
		list, line, fault := depot.Read(x.text)
		if fault != api.ErrTree || line != x.line || len(list) != 0 {
			t.Errorf("P10: Read(%.20q) = %v, %d, %d, want ErrTree and %d", x.text, list, line, fault, x.line)
		}
	}
	long := make([]int, 3000000)
	for kind := -1; kind < 6; kind++ {
		if text, fault := depot.Write([]api.Node{{Kind: kind, List: long}}); fault != api.ErrTree || text != "" {
			t.Errorf("P10: Write of %d numbers = %q, %d", len(long), text, fault)
		}
	}
}

var nodeLine = regexp.MustCompile(`^(b( N){2}|d(( N){2}){1,10}|h( N){1,10}|c( N){1,9})\n$`)

var numberWord = regexp.MustCompile(` (0|-?[1-9][0-9]{0,7}|-?100000000)([ \n])`)

// slowNode reads a line by patterns.
func slowNode(line string) (api.Node, bool) {
	// Twice, for the pattern takes the blank behind a number, which is ahead of the next one.
	shape := numberWord.ReplaceAllString(line, " N$2")
	shape = numberWord.ReplaceAllString(shape, " N$2")
	if !nodeLine.MatchString(shape) || strings.Contains(line, "N") {
		return api.Node{}, false
	}
	n := api.Node{Kind: strings.Index(" bdhc", line[:1])}
	for _, word := range strings.Fields(line)[1:] {
		value, _ := strconv.Atoi(word)
		n.List = append(n.List, value)
	}
	return n, true
}

// slowEnd tells how many nodes the tree has that begins at the first one; more than there are, if some are missing.
func slowEnd(list []api.Node) int {
	if len(list) == 0 || list[0].Kind != api.Branch {
		return 1
	}
	first := slowEnd(list[1:])
	if 1+first > len(list) {
		return 2 + first
	}
	return 1 + first + slowEnd(list[1+first:])
}

func slowRead(text string) ([]api.Node, int, api.Errno) {
	var list []api.Node
	lines := strings.SplitAfter(text, "\n")
	if lines[len(lines)-1] == "" {
		lines = lines[:len(lines)-1]
	}
	for i, line := range lines {
		n, ok := slowNode(line)
		if !ok || i > 0 && slowEnd(list) == i {
			return nil, i + 1, api.ErrTree
		}
		list = append(list, n)
	}
	if slowEnd(list) > len(list) {
		return nil, len(lines) + 1, api.ErrTree
	}
	return list, 0, api.OK
}

func checkRead(t *testing.T, text string) bool {
	t.Helper()
	list, line, fault := depot.Read(text)
	want, wantLine, wantFault := slowRead(text)
	if fault != wantFault || line != wantLine || !sameNodes(list, want) {
		t.Fatalf("P10: Read(%q) = %v, %d, %d, want %v, %d, %d", text, list, line, fault, want, wantLine, wantFault)
	}
	if fault != api.OK {
		return false
	}
	if again, fault := depot.Write(list); fault != api.OK || again != text {
		t.Fatalf("P10: Write(%v) = %q, %d, want %q", list, again, fault, text)
	}
	return true
}

// All texts of up to six of these bytes.
func TestReadOfAllShortTexts(t *testing.T) {
	const letters = "bch 10-\n"
	for length := range 7 {
		raw := make([]byte, length)
		total := 1
		for range length {
			total *= len(letters)
		}
		for number := range total {
			for k := range raw {
				raw[k] = letters[number%len(letters)]
				number /= len(letters)
			}
			checkRead(t, string(raw))
		}
	}
}

// randomTree draws a tree of up to so many branches; how its numbers are drawn is told by greatest.
func randomTree(r *rand.Rand, branches int, greatest int) []api.Node {
	number := func() int { return pick(r, -greatest, greatest) }
	draw := func(kind, count int) api.Node {
		n := api.Node{Kind: kind}
		for range count {
			n.List = append(n.List, number())
		}
		return n
	}
	if branches > 0 && r.Intn(4) > 0 {
		first := r.Intn(branches)
		list := []api.Node{draw(api.Branch, 2)}
		list = append(list, randomTree(r, first, greatest)...)
		return append(list, randomTree(r, branches-1-first, greatest)...)
	}
	switch r.Intn(3) {
	case 0:
		return []api.Node{draw(api.Duals, 2*pick(r, 1, 10))}
	case 1:
		return []api.Node{draw(api.Hall, pick(r, 1, 10))}
	}
	return []api.Node{draw(api.Chain, pick(r, 1, 9))}
}

// treeText writes nodes by a way of its own, trees or not.
func treeText(list []api.Node) string {
	var b strings.Builder
	for _, n := range list {
		b.WriteString(" bdhc"[n.Kind : n.Kind+1])
		for _, number := range n.List {
			b.WriteString(" " + strconv.Itoa(number))
		}
		b.WriteString("\n")
	}
	return b.String()
}

func TestReadAgainstSlowRead(t *testing.T) {
	r := rand.New(rand.NewSource(21))
	trees, others := 0, 0
	for range 6000 {
		text := treeText(randomTree(r, r.Intn(8), []int{3, 100, 100000000}[r.Intn(3)]))
		if !checkRead(t, text) {
			t.Fatalf("P10: %q is a tree", text)
		}
		for range 4 {
			if checkRead(t, spoilTree(r, text)) {
				trees++
			} else {
				others++
			}
		}
	}
	if trees < 500 || others < 10000 {
		t.Errorf("%d trees, %d others", trees, others)
	}
}

// spoilTree makes the text of a tree one that may be none.
func spoilTree(r *rand.Rand, text string) string {
	place := r.Intn(len(text))
	lines := strings.SplitAfter(text, "\n")
	line := r.Intn(len(lines))
	switch r.Intn(6) {
	case 0:
		return text[:place]
	case 1:
		return text[:place] + text[place+1:]
	case 2:
		return text[:place] + "bdhc 0123456789-\n+x\r\t\x00"[r.Intn(22):][:1] + text[place:]
	case 3:
		raw := []byte(text)
		raw[place] = "bdhc 0123456789-\n"[r.Intn(17)]
		return string(raw)
	case 4:
		lines[line] = ""
	case 5:
		lines[line] += lines[r.Intn(len(lines))]
	}
	return strings.Join(lines, "")
}

// Lists of nodes that are nearly trees: Write tells by the text whether Read would take it.
func TestWriteAgainstSlowRead(t *testing.T) {
	r := rand.New(rand.NewSource(22))
	trees, others := 0, 0
	for range 20000 {
		list := randomTree(r, r.Intn(6), []int{3, 100000000, 100000002}[r.Intn(3)])
		switch i := r.Intn(len(list)); r.Intn(5) {
		case 0:
			list = append(list, node(api.Hall, 1))
		case 1:
			list = list[:i]
		case 2:
			list[i].Kind = 1 + r.Intn(4)
		case 3:
			list[i].List = append(list[i].List, r.Intn(9))
		}
		text := treeText(list)
		_, _, wantFault := slowRead(text)
		if wantFault != api.OK {
			text = ""
			others++
		} else {
			trees++
		}
		if got, fault := depot.Write(list); fault != wantFault || got != text {
			t.Fatalf("P10: Write(%v) = %q, %d, want %q, %d", list, got, fault, text, wantFault)
		}
	}
	if trees < 3000 || others < 3000 {
		t.Errorf("%d trees, %d others", trees, others)
	}
}
