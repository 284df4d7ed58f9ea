// Package cells: the square of cells of an instance, for some arcs that are forced and some that are barred.
package cells

import (
	"depot/api"
	"depot/ways"
)

// depot is the site that the rows and columns of the vans stand for.
const depot = 0

// What is said of an arc.
const (
	Free   = 0
	Forced = 1
	Barred = 2
)

// Arcs are the arcs of an instance: the way along each, and what is said of it.
type Arcs struct {
	vans int
	far  [][]int
	said [api.MaxStops + 1][api.MaxStops + 1]int
}

// Open begins with the arcs of an instance, all of them free; with none, if x is no instance.
func Open(x api.Instance) Arcs {
	far := ways.Between(x)
	if len(far) == 0 {
		return Arcs{}
	}
	return Arcs{vans: x.Vans, far: far}
}

// Read marks the arcs of two texts. A text without fault has each arc once, so what comes behind the first fault is not read, however long it is.
func (a *Arcs) Read(force string, bar string) api.Errno {
	fault := a.mark(force, Forced)
	if fault != api.OK {
		return fault
	}
	return a.mark(bar, Barred)
}

func (a *Arcs) mark(text string, what int) api.Errno {
	if len(text)%2 != 0 {
		return api.ErrArcs
	}
	for i := 0; i+1 < len(text); i += 2 {
		from := int(text[i]) - '0'
		to := int(text[i+1]) - '0'
		if a.Said(from, to) != Free {
			return api.ErrArcs
		}
		a.Say(from, to, what)
	}
	return api.OK
}

// isArc tells whether two numbers are sites, different ones.
func (a *Arcs) isArc(from int, to int) bool {
	if from < 0 || from >= len(a.far) || to < 0 || to >= len(a.far) {
		return false
	}
	return from != to
}

// Said tells what is said of an arc; None, if it is none of the instance's: any two numbers may be asked for.
func (a *Arcs) Said(from int, to int) int {
	if !a.isArc(from, to) {
		return api.None
	}
	return a.said[from][to]
}

// Say takes the place of what was said of an arc, if it is one of the instance's.
func (a *Arcs) Say(from int, to int, what int) {
	if a.isArc(from, to) {
		a.said[from][to] = what
	}
}
