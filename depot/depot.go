// Package depot: delivery rounds, the cheapest plan, and a tree of grounds for it: see DOC.md.
package depot

import (
	"depot/api"
	"depot/assign"
	"depot/cells"
	"depot/grounds"
	"depot/instance"
	"depot/rounds"
	"depot/search"
	"depot/trees"
	"depot/ways"
)

// Parse reads the text of an instance (P3).
func Parse(text string) (api.Instance, int, api.Errno) { return instance.Parse(text) }

// Print writes the text of an instance (P4).
func Print(x api.Instance) (string, api.Errno) { return instance.Print(x) }

// Ways tells how far it is from each site to each other (P5).
func Ways(text string) ([][]int, api.Errno) {
	x, _, fault := instance.Parse(text)
	if fault != api.OK {
		return nil, fault
	}
	return ways.Between(x), api.OK
}

// Judge tells what a plan costs and when it is where (P6).
func Judge(text string, plan string) (int, []int, api.Errno) {
	area, fault := rounds.Open(text)
	if fault != api.OK {
		return 0, nil, fault
	}
	return area.Judge(plan)
}

// Improve makes a plan cheaper by moves of one stop (P7).
func Improve(text string, plan string) (string, int, api.Errno) {
	area, fault := rounds.Open(text)
	if fault != api.OK {
		return "", 0, fault
	}
	return area.Improve(plan)
}

// Assign gives each row a column of its own, for the least sum (P8).
func Assign(cells [][]int) (api.Match, api.Errno) { return assign.Best(cells) }

// Cells makes the square of cells for some arcs that are forced and some that are barred (P9).
func Cells(text string, forced string, barred string) ([][]int, api.Errno) {
	x, _, fault := instance.Parse(text)
	if fault != api.OK {
		return nil, fault
	}
	arcs := cells.Open(x)
	fault = arcs.Read(forced, barred)
	if fault != api.OK {
		return nil, fault
	}
	return arcs.Square(), api.OK
}

// Read reads the text of a tree (P10).
func Read(tree string) ([]api.Node, int, api.Errno) { return trees.Read(tree) }

// Write writes the text of a tree (P10).
func Write(l []api.Node) (string, api.Errno) { return trees.Write(l) }

// Check tells whether a tree shows a claim (P11).
func Check(text string, claim string, tree string) (int, api.Errno) {
	return grounds.Check(text, claim, tree)
}

// Solve finds the cheapest plan, or that there is none, and the tree that shows it (P12).
func Solve(text string, budget int) (api.Answer, api.Errno) { return search.Solve(text, budget) }
