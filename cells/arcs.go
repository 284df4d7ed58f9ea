// Package cells: the square of cells of an instance, for some arcs that are forced and some that are barred.
package cells

import (
	"depot/api"
	"depot/ways"
)

// depot is the site that the rows and columns of the vans stand for.
const depot = 0

// What is said of an arc.
const (
	free   = 0
	forced = 1
	barred = 2
)

// Arcs are the arcs of an instance: the way along each, and what is said of it.
type Arcs struct {
	vans int
	far  [][]int
	said [api.MaxStops + 1][api.MaxStops + 1]int
}

// Open begins with the arcs of an instance, all of them free; with none, if x is no instance.
func Open(x api.Instance) Arcs {
	far := ways.Between(x)
	if len(far) == 0 {
		return Arcs{}
	}
	return Arcs{vans: x.Vans, far: far}
}

// Read marks the arcs of two texts. A text without fault has each arc once, so what comes behind the first fault is not read, however long it is.
func (a *Arcs) Read(force string, bar string) api.Errno {
	fault := a.mark(force, forced)
	if fault != api.OK {
		return fault
	}
	return a.mark(bar, barred)
}

func (a *Arcs) mark(text string, what int) api.Errno {
	if len(text)%2 != 0 {
		return api.ErrArcs
	}
	for i := 0; i+1 < len(text); i += 2 {
		from := a.site(text[i])
		to := a.site(text[i+1])
		if from == api.None || to == api.None || from == to || a.said[from][to] != free {
			return api.ErrArcs
		}
		a.said[from][to] = what
	}
	return api.OK
}

// site tells the site that a byte names, or None.
func (a *Arcs) site(letter byte) int {
	if letter < '0' || int(letter-'0') >= len(a.far) {
		return api.None
	}
	return int(letter - '0')
}
