package rounds

import "depot/api"

// offer is a plan that Judge accepts, and its cost.
type offer struct {
	plan string
	cost int
}

// Improve makes moves for as long as one makes the plan cheaper.
func (a *Area) Improve(plan string) (string, int, api.Errno) {
	cost, _, fault := a.Judge(plan)
	if fault != api.OK {
		return "", 0, fault
	}
	now := offer{plan: plan, cost: cost}
	next := a.cheapest(now)
	// This ends: every round costs less than the one before, and nothing costs less than 0.
	for next.cost < now.cost {
		now = next
		next = a.cheapest(now)
	}
	return now.plan, now.cost, api.OK
}

// cheapest is the cheapest of the plans that are one move away; now itself, if none of them is cheaper.
func (a *Area) cheapest(now offer) offer {
	best := now
	list := moves(now.plan)
	for i := 0; i < len(list); i++ {
		cost, _, fault := a.Judge(list[i])
		if fault == api.OK && cost < best.cost {
			best = offer{plan: list[i], cost: cost}
		}
	}
	return best
}

// moves tells the plans that are one move away from a plan.
func moves(plan string) []string {
	var list []string
	for i := 0; i < len(plan); i++ {
		if plan[i] == '/' {
			continue
		}
		stop := plan[i : i+1]
		rest := without(plan, i)
		// Every place of the text is one of some route: both sides of a `/` are the end of a route and the beginning of the next.
		for k := 0; k <= len(rest); k++ {
			list = append(list, rest[:k]+stop+rest[k:])
		}
		if rest != "" {
			list = append(list, rest+"/"+stop)
		}
	}
	return list
}

// without takes the stop at a place out of a plan; if it was alone on its route, a `/` goes with it.
func without(plan string, place int) string {
	before := plan[:place]
	behind := plan[place+1:]
	first := before == "" || before[len(before)-1] == '/'
	last := behind == "" || behind[0] == '/'
	if first && last && before != "" {
		before = before[:len(before)-1]
	} else if first && last && behind != "" {
		behind = behind[1:]
	}
	return before + behind
}
