package instance

import (
	"depot/api"
	"strconv"
)

// Print writes the text of x: the D line, the S lines, the R lines.
func Print(x api.Instance) (string, api.Errno) {
	fault := Fault(x)
	if fault != api.OK {
		return "", fault
	}
	text := lineOf("D", []int{x.Vans, x.Load, x.Close, x.Nodes, x.Home})
	for i := 0; i < len(x.Stops); i++ {
		s := x.Stops[i]
		text += lineOf("S", []int{s.Node, s.Want, s.From, s.Till, s.Stay})
	}
	for i := 0; i < len(x.Roads); i++ {
		r := x.Roads[i]
		text += lineOf("R", []int{r.A, r.B, r.Len})
	}
	return text, api.OK
}

func lineOf(letter string, values []int) string {
	line := letter
	for i := 0; i < len(values); i++ {
		line += " " + strconv.Itoa(values[i])
	}
	return line + "\n"
}
