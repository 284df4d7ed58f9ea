package depot_test

import (
	"math/rand"
	"reflect"
	"strconv"
	"strings"

	"depot/api"
)

// The texts A to D of the document's examples.
const (
	textA = "D 2 10 100 4 0\nS 1 4 0 50 5\nS 2 5 10 60 5\nS 3 6 0 90 5\nR 0 1 10\nR 1 0 10\nR 1 2 5\nR 2 1 5\nR 2 3 7\nR 3 2 7\nR 3 0 20\nR 0 3 20\n"
	textB = "D 1 5 20 2 0\nS 1 3 0 20 0\nR 0 1 4\nR 1 0 4\n"
	textC = "D 1 5 20 2 0\nS 1 6 0 20 0\nR 0 1 4\nR 1 0 4\n"
	textD = "D 1 5 20 2 0\nS 1 3 0 20 0\nR 0 1 4\n"
)

const (
	maxInt = int(^uint(0) >> 1)
	minInt = -maxInt - 1
)

func instanceA() api.Instance {
	return api.Instance{
		Vans: 2, Load: 10, Close: 100, Nodes: 4, Home: 0,
		Stops: []api.Stop{{Node: 1, Want: 4, From: 0, Till: 50, Stay: 5}, {Node: 2, Want: 5, From: 10, Till: 60, Stay: 5}, {Node: 3, Want: 6, From: 0, Till: 90, Stay: 5}},
		Roads: []api.Road{{A: 0, B: 1, Len: 10}, {A: 1, B: 0, Len: 10}, {A: 1, B: 2, Len: 5}, {A: 2, B: 1, Len: 5}, {A: 2, B: 3, Len: 7}, {A: 3, B: 2, Len: 7}, {A: 3, B: 0, Len: 20}, {A: 0, B: 3, Len: 20}},
	}
}

func instanceB() api.Instance {
	return api.Instance{
		Vans: 1, Load: 5, Close: 20, Nodes: 2, Home: 0,
		Stops: []api.Stop{{Node: 1, Want: 3, From: 0, Till: 20, Stay: 0}},
		Roads: []api.Road{{A: 0, B: 1, Len: 4}, {A: 1, B: 0, Len: 4}},
	}
}

// same takes a list without elements for the same, nil or not.
func same(x, y api.Instance) bool {
	return reflect.DeepEqual(tidy(x), tidy(y))
}

// tidy copies, so that what it answers shares no list with x.
func tidy(x api.Instance) api.Instance {
	x.Stops = append([]api.Stop{}, x.Stops...)
	x.Roads = append([]api.Road{}, x.Roads...)
	return x
}

// pick takes the least and the greatest number that may be more often than others.
func pick(r *rand.Rand, least, greatest int) int {
	switch r.Intn(6) {
	case 0:
		return least
	case 1:
		return greatest
	}
	return least + r.Intn(greatest-least+1)
}

// randomInstance draws an instance whose lengths are at most longest.
func randomInstance(r *rand.Rand, longest int) api.Instance {
	x := api.Instance{Vans: pick(r, 1, 3), Load: pick(r, 0, 10000), Close: pick(r, 0, 10000), Nodes: pick(r, 1, 12)}
	x.Home = pick(r, 0, x.Nodes-1)
	for range pick(r, 0, 7) {
		from := pick(r, 0, 10000)
		x.Stops = append(x.Stops, api.Stop{Node: pick(r, 0, x.Nodes-1), Want: pick(r, 0, 10000), From: from, Till: pick(r, from, 10000), Stay: pick(r, 0, 10000)})
	}
	for range pick(r, 0, 40) {
		x.Roads = append(x.Roads, api.Road{A: r.Intn(x.Nodes), B: r.Intn(x.Nodes), Len: pick(r, 0, longest)})
	}
	return x
}

// textOf writes x by a way of its own, so that the tests of one call do not lean on another.
func textOf(x api.Instance) string {
	var b strings.Builder
	put := func(letter string, numbers ...int) {
		b.WriteString(letter)
		for _, n := range numbers {
			b.WriteString(" " + strconv.Itoa(n))
		}
		b.WriteString("\n")
	}
	put("D", x.Vans, x.Load, x.Close, x.Nodes, x.Home)
	for _, s := range x.Stops {
		put("S", s.Node, s.Want, s.From, s.Till, s.Stay)
	}
	for _, r := range x.Roads {
		put("R", r.A, r.B, r.Len)
	}
	return b.String()
}
