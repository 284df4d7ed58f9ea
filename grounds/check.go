// Package grounds: a tree of grounds for a claim, checked node by node.
package grounds

import (
	"depot/api"
	"depot/instance"
	"depot/places"
	"depot/rounds"
	"depot/trees"
)

// Check tells the first node that does not hold. With a fault of the tree's text it tells the line.
func Check(text string, claim string, tree string) (int, api.Errno) {
	x, _, fault := instance.Parse(text)
	if fault != api.OK {
		return 0, fault
	}
	area := rounds.Of(x)
	root := places.Root(x)
	w := &walk{area: area, place: root}
	fault = w.take(claim)
	if fault != api.OK {
		return 0, fault
	}
	list, line, fault := trees.Read(tree)
	if fault != api.OK {
		return line, fault
	}
	for i := 0; i < len(list); i++ {
		if !w.step(list[i]) {
			return i + 1, api.ErrNode
		}
	}
	return 0, api.OK
}
