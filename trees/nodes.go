// Package trees: the text of a tree of grounds, read and written.
package trees

import "depot/api"

// most bounds the numbers of a node of any kind: two for each row of the greatest square of cells.
const most = 2 * api.MaxSide

// letterOf tells the letter that the line of a node begins with; "" if there is no such kind.
func letterOf(kind int) string {
	switch kind {
	case api.Branch:
		return "b"
	case api.Duals:
		return "d"
	case api.Hall:
		return "h"
	case api.Chain:
		return "c"
	}
	return ""
}

// kindOf tells the kind of a letter; None if it is no kind's.
func kindOf(letter byte) int {
	switch letter {
	case 'b':
		return api.Branch
	case 'd':
		return api.Duals
	case 'h':
		return api.Hall
	case 'c':
		return api.Chain
	}
	return api.None
}

// countFits tells whether a node of this kind may have so many numbers.
func countFits(kind int, count int) bool {
	switch kind {
	case api.Branch:
		return count == 2
	case api.Duals:
		return count >= 2 && count <= most && count%2 == 0
	case api.Hall:
		return count >= 1 && count <= api.MaxSide
	case api.Chain:
		return count >= 1 && count <= api.MaxChain
	}
	return false
}

// missing tells how many trees are still to come behind a node, where so many were to come ahead of it. Counting them takes the place of a stack, so the depth of a tree has no bound.
func missing(ahead int, kind int) int {
	if kind == api.Branch {
		return ahead + 1
	}
	return ahead - 1
}
