package trees

import (
	"depot/api"
	"strconv"
)

// Write writes the text of a tree.
func Write(l []api.Node) (string, api.Errno) {
	if !isTree(l) {
		return "", api.ErrTree
	}
	// Bytes, for a text that grows by one string after the other is copied as often.
	var text []byte
	for i := 0; i < len(l); i++ {
		line := lineOf(l[i])
		text = append(text, line...)
	}
	return string(text), api.OK
}

// isTree tells whether the last node is the one, and the first one, behind which no tree is missing.
func isTree(l []api.Node) bool {
	left := 1
	for i := 0; i < len(l); i++ {
		if left == 0 || !isNode(l[i]) {
			return false
		}
		left = missing(left, l[i].Kind)
	}
	return left == 0
}

func isNode(n api.Node) bool {
	if !countFits(n.Kind, len(n.List)) {
		return false
	}
	for i := 0; i < len(n.List); i++ {
		if n.List[i] < -api.MaxDual || n.List[i] > api.MaxDual {
			return false
		}
	}
	return true
}

func lineOf(n api.Node) string {
	line := letterOf(n.Kind)
	for i := 0; i < len(n.List); i++ {
		line += " " + strconv.Itoa(n.List[i])
	}
	return line + "\n"
}
