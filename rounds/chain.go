package rounds

// Blocked tells whether a list of sites is a chain that no van can go along. A chain is a piece of a route, so the depot stands at its ends alone.
func (a *Area) Blocked(chain []int) bool {
	if !a.isChain(chain) {
		return false
	}
	if hasTwice(chain) {
		return true
	}
	piece := [][]int{chain}
	if !a.allLoad(piece) || !a.allHaveWays(piece) {
		return true
	}
	starts := make([]int, len(a.x.Stops))
	return !a.allInTime(piece, starts)
}

func (a *Area) isChain(list []int) bool {
	for i := 0; i < len(list); i++ {
		if list[i] < 0 || list[i] >= len(a.far) {
			return false
		}
		if list[i] == depot && i != 0 && i != len(list)-1 {
			return false
		}
	}
	return len(list) > 0
}

// hasTwice tells whether a stop stands in a chain twice; the depot may stand at both of its ends.
func hasTwice(chain []int) bool {
	for i := 0; i < len(chain); i++ {
		for k := 0; k < i; k++ {
			if chain[i] == chain[k] && chain[i] != depot {
				return true
			}
		}
	}
	return false
}
