package rounds

import "depot/api"

// textFault tells what the text of a plan alone has against it. A text without fault has each stop once, so it is short, however long the texts are that are handed in.
func textFault(plan string, stops int) api.Errno {
	if !isPlan(plan, stops) {
		return api.ErrPlan
	}
	times := make([]int, stops+1)
	for i := 0; i < len(plan); i++ {
		if plan[i] != '/' {
			times[plan[i]-'0']++
		}
	}
	for stop := 1; stop <= stops; stop++ {
		if times[stop] > 1 {
			return api.ErrTwice
		}
	}
	for stop := 1; stop <= stops; stop++ {
		if times[stop] == 0 {
			return api.ErrLeft
		}
	}
	return api.OK
}

// isPlan tells whether no route is empty and all digits are stops' numbers.
func isPlan(plan string, stops int) bool {
	length := 0
	for i := 0; i < len(plan); i++ {
		if plan[i] == '/' {
			if length == 0 {
				return false
			}
			length = 0
			continue
		}
		if plan[i] < '1' || int(plan[i]-'0') > stops {
			return false
		}
		length++
	}
	return length > 0 || plan == ""
}

// routes tells the sites of each route of a plan, the depot at both ends.
func routes(plan string) [][]int {
	var list [][]int
	route := []int{depot}
	for i := 0; i < len(plan); i++ {
		if plan[i] == '/' {
			route = append(route, depot)
			list = append(list, route)
			route = []int{depot}
			continue
		}
		route = append(route, int(plan[i]-'0'))
	}
	if plan != "" {
		route = append(route, depot)
		list = append(list, route)
	}
	return list
}
