package depot_test

import (
	"math/rand"
	"regexp"
	"strconv"
	"strings"
	"testing"

	"depot/api"
	"depot/depot"
)

func TestParseGivesTheInstance(t *testing.T) {
	head := api.Instance{Vans: 1, Load: 5, Close: 20, Nodes: 2, Home: 0}
	low := api.Instance{Vans: 1, Nodes: 1}
	high := api.Instance{Vans: 3, Load: 10000, Close: 10000, Nodes: 12, Home: 11, Stops: []api.Stop{{Node: 11, Want: 10000, From: 10000, Till: 10000, Stay: 10000}}, Roads: []api.Road{{A: 11, B: 11, Len: 10000}}}
	for _, c := range []struct {
		text string
		want api.Instance
	}{
		{textA, instanceA()},
		{textB, instanceB()},
		{"  D 01 5 20 2 0\n \nS 1 3 0 20 0 \nR 0  1 4\nR 1 0 00004", instanceB()},
		{strings.TrimSuffix(textB, "\n"), instanceB()},
		{"\n  \n\n" + textB + " \n   ", instanceB()},
		{strings.ReplaceAll(textB, " ", "    "), instanceB()},
		{"   " + strings.ReplaceAll(textB, "\n", "   \n   "), instanceB()},
		{"D 1 5 20 2 0\nR 0 1 4\nS 1 3 0 20 0\nR 1 0 4", instanceB()},
		{"D 00001 00005 00020 00002 00000\nR 00000 00001 00004\nR 1 0 4\nS 00001 00003 00000 00020 00000", instanceB()},
		{"D 1 5 20 2 0", head},
		{"D 1 007 20 2 0", api.Instance{Vans: 1, Load: 7, Close: 20, Nodes: 2}},
		{"D 1 010 20 2 0", api.Instance{Vans: 1, Load: 10, Close: 20, Nodes: 2}},
		{"D 1 0 0 1 0", low},
		{"D 3 10000 10000 12 11\nS 11 10000 10000 10000 10000\nR 11 11 10000", high},
		{"D 2 3 4 9 8\nS 7 6 1 2 5\nS 8 1 2 3 4\nR 1 2 3\nR 1 2 3", api.Instance{Vans: 2, Load: 3, Close: 4, Nodes: 9, Home: 8, Stops: []api.Stop{{Node: 7, Want: 6, From: 1, Till: 2, Stay: 5}, {Node: 8, Want: 1, From: 2, Till: 3, Stay: 4}}, Roads: []api.Road{{A: 1, B: 2, Len: 3}, {A: 1, B: 2, Len: 3}}}},
		{textB + strings.Repeat("\n", 2000-len(textB)), instanceB()},
		{textB + strings.Repeat(" ", 2000-len(textB)), instanceB()},
		{strings.Repeat(" ", 2000-len(textB)) + textB, instanceB()},
	} {
		x, line, fault := depot.Parse(c.text)
		if fault != api.OK || line != 0 || !same(x, c.want) {
			t.Errorf("P3: Parse(%.90q) = %+v, %d, %d, want %+v", c.text, x, line, fault, c.want)
		}
	}
}

type wrongText struct {
	text  string
	line  int
	fault api.Errno
}

func testWrong(t *testing.T, list []wrongText) {
	t.Helper()
	for _, c := range list {
		x, line, fault := depot.Parse(c.text)
		if line != c.line || fault != c.fault || !same(x, api.Instance{}) {
			t.Errorf("P3: Parse(%.90q) = %+v, %d, %d, want nothing, %d, %d", c.text, x, line, fault, c.line, c.fault)
		}
	}
}

func TestParseLongText(t *testing.T) {
	testWrong(t, []wrongText{
		{textB + strings.Repeat("\n", 2001-len(textB)), 0, api.ErrLong},
		{textB + strings.Repeat(" ", 2001-len(textB)), 0, api.ErrLong},
		{strings.Repeat("\n", 2001), 0, api.ErrLong},
		{"x\n" + strings.Repeat("D", 1999), 0, api.ErrLong},
		{strings.Repeat("D 1 5 20 2 0\n", 1000000), 0, api.ErrLong},
		{strings.Repeat("\n", 2000), 2001, api.ErrForm},
		{strings.Repeat(" ", 2000), 1, api.ErrForm},
		{strings.Repeat("9", 2000), 1, api.ErrForm},
		{strings.Repeat("D ", 1000), 1, api.ErrForm},
		{"D " + strings.Repeat("0", 1998), 1, api.ErrForm},
	})
}

func TestParseForm(t *testing.T) {
	testWrong(t, []wrongText{
		{"", 1, api.ErrForm}, {"\n", 2, api.ErrForm}, {"\n\n", 3, api.ErrForm}, {"   ", 1, api.ErrForm}, {" \n  \n   ", 3, api.ErrForm},
		{"S 1 3 0 20 0\n", 1, api.ErrForm}, {"R 0 0 0\nD 1 5 20 2 0", 1, api.ErrForm}, {"\n \nS 1 3 0 20 0\n" + textB, 3, api.ErrForm},
		{"D", 1, api.ErrForm}, {"D 1 5 20 2", 1, api.ErrForm}, {"D 1 5 20 2 0 0", 1, api.ErrForm}, {"D 1 5 20 2 0 x", 1, api.ErrForm},
		{"d 1 5 20 2 0", 1, api.ErrForm}, {"D1 5 20 2 0", 1, api.ErrForm}, {"DD 1 5 20 2 0", 1, api.ErrForm}, {"1 5 20 2 0", 1, api.ErrForm}, {"1 D 5 20 2 0", 1, api.ErrForm}, {"X 1 5 20 2 0", 1, api.ErrForm},
		{"D\t1 5 20 2 0", 1, api.ErrForm}, {"\tD 1 5 20 2 0", 1, api.ErrForm}, {"D 1 5 20 2 0\t", 1, api.ErrForm}, {"D 1 5 20 2\t0", 1, api.ErrForm}, {"D 1 5 20 2 0\r\n", 1, api.ErrForm}, {"D 1 5 20 2 0\rR 0 1 4", 1, api.ErrForm}, {"\r\n" + textB, 1, api.ErrForm}, {"\t\n" + textB, 1, api.ErrForm}, {"D 1 5 20 2 0\x00", 1, api.ErrForm}, {"\x00", 1, api.ErrForm}, {"D\u00a01 5 20 2 0", 1, api.ErrForm}, {"D 1 5 20 2 \u0660", 1, api.ErrForm}, {"D 1 5 20 2 \xff", 1, api.ErrForm}, {"\ufeffD 1 5 20 2 0", 1, api.ErrForm},
		{"D 1 5 20 2 000000", 1, api.ErrForm}, {"D 1 5 20 2 000001", 1, api.ErrForm}, {"D 1 100000 20 2 0", 1, api.ErrForm}, {"D 1 99999999999999999999 20 2 0", 1, api.ErrForm}, {"D 1 5 20 2 -0", 1, api.ErrForm}, {"D 1 5 20 2 -1", 1, api.ErrForm}, {"D 1 5 20 2 +1", 1, api.ErrForm}, {"D 1 5 2_0 2 0", 1, api.ErrForm}, {"D 1 5 0x2 2 0", 1, api.ErrForm}, {"D 1 5 20. 2 0", 1, api.ErrForm}, {"D 1 5 20/ 2 0", 1, api.ErrForm}, {"D 1 5 20: 2 0", 1, api.ErrForm}, {"D 1 5 1e1 2 0", 1, api.ErrForm},
		{"D 1 5 20 2 0\nD 1 5 20 2 0", 2, api.ErrForm}, {textB + "D 1 5 20 2 0", 5, api.ErrForm}, {textB + "D 0 5 20 2 0", 5, api.ErrForm},
		{"D 1 5 20 2 0\nS 1 3 0 20", 2, api.ErrForm}, {"D 1 5 20 2 0\nS 1 3 0 20 0 0", 2, api.ErrForm}, {"D 1 5 20 2 0\nS", 2, api.ErrForm}, {"D 1 5 20 2 0\ns 1 3 0 20 0", 2, api.ErrForm}, {"D 1 5 20 2 0\nS 1 3 0 20 000000", 2, api.ErrForm},
		{"D 1 5 20 2 0\nR 0 1", 2, api.ErrForm}, {"D 1 5 20 2 0\nR 0 1 4 4", 2, api.ErrForm}, {"D 1 5 20 2 0\nR", 2, api.ErrForm}, {"D 1 5 20 2 0\nr 0 1 4", 2, api.ErrForm}, {"D 1 5 20 2 0\nR 0 1 000004", 2, api.ErrForm}, {"D 1 5 20 2 0\nR 0 1 4R 1 0 4", 2, api.ErrForm},
		{"D 1 5 20 2 0\n\n\nx\n", 4, api.ErrForm}, {textB + "\n  \n0", 7, api.ErrForm}, {textB + "#", 5, api.ErrForm},
	})
}

func TestParseMany(t *testing.T) {
	stops := "D 3 0 0 12 11\n" + strings.Repeat("S 0 1 0 5 1\n", 7)
	roads := "D 3 0 0 12 11\n" + strings.Repeat("R 0 0 1\n", 40)
	both := stops + strings.Repeat("R 0 0 1\n", 40)
	testWrong(t, []wrongText{
		{stops + "S 0 1 0 5 1", 9, api.ErrMany}, {stops + "\n\nR 0 0 1\n S 0 1 0 5 1", 12, api.ErrMany}, {stops + "S 99 1 0 5 1", 9, api.ErrMany}, {stops + "S 0 1 5 4 1\nx", 9, api.ErrMany}, {stops + "S 0 1 0 5", 9, api.ErrForm}, {stops + "D 3 0 0 12 11", 9, api.ErrForm}, {stops + "R 12 0 1", 9, api.ErrBound},
		{roads + "R 0 0 1", 42, api.ErrMany}, {roads + "R 12 0 1", 42, api.ErrMany}, {roads + "R 0 0 10001\nx", 42, api.ErrMany}, {roads + "R 0 0", 42, api.ErrForm}, {roads + "S 12 0 0 0 0", 42, api.ErrBound},
		{both + "S 0 1 0 5 1", 49, api.ErrMany}, {both + "R 0 0 1", 49, api.ErrMany}, {both + "\nx", 50, api.ErrForm},
	})
	for _, text := range []string{stops, roads, both} {
		x, line, fault := depot.Parse(text)
		if fault != api.OK || line != 0 || len(x.Stops) != strings.Count(text, "S") || len(x.Roads) != strings.Count(text, "R") {
			t.Errorf("P3: Parse(%.90q) = %+v, %d, %d", text, x, line, fault)
		}
	}
}

func TestParseBounds(t *testing.T) {
	head := "D 1 5 20 2 0\n"
	testWrong(t, []wrongText{
		{"D 0 5 20 2 0", 1, api.ErrBound}, {"D 4 5 20 2 0", 1, api.ErrBound}, {"D 99999 5 20 2 0", 1, api.ErrBound}, {"D 1 10001 20 2 0", 1, api.ErrBound}, {"D 1 5 10001 2 0", 1, api.ErrBound}, {"D 1 5 20 0 0", 1, api.ErrBound}, {"D 1 5 20 13 0", 1, api.ErrBound}, {"D 1 5 20 13 12", 1, api.ErrBound}, {"D 1 5 20 2 2", 1, api.ErrBound}, {"D 3 5 20 12 12", 1, api.ErrBound}, {"\nD 1 5 20 2 99999", 2, api.ErrBound},
		{"D 0 5 20 2 0\nx", 1, api.ErrBound}, {"D 1 5 20 2 2\nD 1 5 20 2 0", 1, api.ErrBound},
		{head + "S 2 3 0 8 0", 2, api.ErrBound}, {head + "S 0 10001 0 8 0", 2, api.ErrBound}, {head + "S 0 1 0 10001 0", 2, api.ErrBound}, {head + "S 0 1 10001 10001 0", 2, api.ErrBound}, {head + "S 0 1 10001 8 0", 2, api.ErrBound}, {head + "S 0 1 0 8 10001", 2, api.ErrBound}, {head + "\nS 1 3 9 8 0", 3, api.ErrBound}, {head + "S 1 3 1 0 0", 2, api.ErrBound},
		{head + "R 2 0 1", 2, api.ErrBound}, {head + "R 0 2 1", 2, api.ErrBound}, {head + "R 0 0 10001", 2, api.ErrBound}, {head + "R 0 0 99999", 2, api.ErrBound},
		{textB + "S 2 3 0 8 0\nx", 5, api.ErrBound}, {textB + "R 2 0 1\nS 2 3 0 8 0", 5, api.ErrBound}, {textB + "x\nS 2 3 0 8 0", 5, api.ErrForm},
	})
}

var plainNumber = regexp.MustCompile(`^[0-9]{1,5}$`)

// slowParse reads the promise word by word, with none of the program's code.
func slowParse(text string) (api.Instance, int, api.Errno) {
	if len(text) > 2000 {
		return api.Instance{}, 0, api.ErrLong
	}
	var x api.Instance
	heads := 0
	list := strings.Split(text, "\n")
	for i, line := range list {
		words := strings.FieldsFunc(line, func(r rune) bool { return r == ' ' })
		if len(words) == 0 {
			continue
		}
		wanted, known := map[string]int{"D": 5, "S": 5, "R": 3}[words[0]]
		form := known && wanted == len(words)-1 && (words[0] == "D") == (heads == 0)
		var n []int
		for _, word := range words[1:] {
			form = form && plainNumber.MatchString(word)
			value, _ := strconv.Atoi(word)
			n = append(n, value)
		}
		if !form {
			return api.Instance{}, i + 1, api.ErrForm
		}
		if words[0] == "S" && len(x.Stops) == 7 || words[0] == "R" && len(x.Roads) == 40 {
			return api.Instance{}, i + 1, api.ErrMany
		}
		within := true
		switch words[0] {
		case "D":
			heads++
			x.Vans, x.Load, x.Close, x.Nodes, x.Home = n[0], n[1], n[2], n[3], n[4]
			within = 1 <= n[0] && n[0] <= 3 && n[1] <= 10000 && n[2] <= 10000 && 1 <= n[3] && n[3] <= 12 && n[4] < n[3]
		case "S":
			x.Stops = append(x.Stops, api.Stop{Node: n[0], Want: n[1], From: n[2], Till: n[3], Stay: n[4]})
			within = n[0] < x.Nodes && n[1] <= 10000 && n[2] <= n[3] && n[3] <= 10000 && n[4] <= 10000
		case "R":
			x.Roads = append(x.Roads, api.Road{A: n[0], B: n[1], Len: n[2]})
			within = n[0] < x.Nodes && n[1] < x.Nodes && n[2] <= 10000
		}
		if !within {
			return api.Instance{}, i + 1, api.ErrBound
		}
	}
	if heads == 0 {
		return api.Instance{}, len(list), api.ErrForm
	}
	return x, 0, api.OK
}

// spoil changes a text at some places, by pieces and lines that lie close to what the form asks.
func spoil(r *rand.Rand, text string) string {
	pieces := []string{"", " ", "  ", "\n", "\n\n", "0", "1", "9", "00000", "10000", "10001", "12", "D", "S", "R", "x", "-", "+", "\t", "\r", "\x00", "\xff"}
	whole := []string{"", "  ", "S 0 0 0 0 0", "S 0 0 0 10001 0", "S 12 0 0 0 0", " R 0  0 0", "R 0 12 0", "D 1 0 0 1 0"}
	for range r.Intn(4) {
		if r.Intn(3) == 0 {
			list := strings.SplitAfter(text, "\n")
			at := r.Intn(len(list))
			list[at] = whole[r.Intn(len(whole))] + "\n" + list[at]
			text = strings.Join(list, "")
			continue
		}
		at := r.Intn(len(text) + 1)
		behind := min(at+r.Intn(3), len(text))
		text = text[:at] + pieces[r.Intn(len(pieces))] + text[behind:]
	}
	return text
}

func TestParseAgainstSlowParse(t *testing.T) {
	r := rand.New(rand.NewSource(3))
	seen := map[api.Errno]int{}
	for range 30000 {
		text := spoil(r, textOf(randomInstance(r, 10000)))
		x, line, fault := depot.Parse(text)
		wantX, wantLine, wantFault := slowParse(text)
		seen[fault]++
		if line != wantLine || fault != wantFault || !same(x, wantX) {
			t.Fatalf("P3: Parse(%q) = %+v, %d, %d, want %+v, %d, %d", text, x, line, fault, wantX, wantLine, wantFault)
		}
	}
	for _, fault := range []api.Errno{api.OK, api.ErrForm, api.ErrMany, api.ErrBound} {
		if seen[fault] < 100 {
			t.Errorf("only %d texts with the error %d", seen[fault], fault)
		}
	}
}
