// Package places: the places of the nodes of a tree, one after the other in its order, and what the branches above each of them say of the arcs.
package places

import (
	"depot/api"
	"depot/cells"
)

// branch is an arc that a tree parts by: where it is forced first, then where it is barred.
type branch struct {
	from int
	to   int
}

// Place is where a node stands in a tree.
type Place struct {
	Arcs  cells.Arcs // with what the branches above the node say
	above []branch   // the branches above the node, the lowest last
}

// Root is the place of the first node: no branch is above it.
func Root(x api.Instance) Place {
	return Place{Arcs: cells.Open(x)}
}

// Enter goes below a branch with these numbers, to the side where its arc is forced. It stays, and tells false, if they are no arc that is free. An arc is free but once, so no place is deeper than there are arcs.
func (p *Place) Enter(list []int) bool {
	if len(list) != 2 {
		return false
	}
	b := branch{from: list[0], to: list[1]}
	if p.Arcs.Said(b.from, b.to) != cells.Free {
		return false
	}
	p.Arcs.Say(b.from, b.to, cells.Forced)
	p.above = append(p.above, b)
	return true
}

// Leave goes from a leaf to the other side of the lowest branch that has one left; the branches below that are done. It tells false if none has: the tree is whole.
func (p *Place) Leave() bool {
	for len(p.above) > 0 {
		b := p.above[len(p.above)-1]
		if p.Arcs.Said(b.from, b.to) == cells.Forced {
			p.Arcs.Say(b.from, b.to, cells.Barred)
			return true
		}
		p.Arcs.Say(b.from, b.to, cells.Free)
		p.above = p.above[:len(p.above)-1]
	}
	return false
}
