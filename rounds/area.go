// Package rounds: plans: their texts, what they cost, and how they are made cheaper.
package rounds

import (
	"depot/api"
	"depot/instance"
	"depot/ways"
)

// depot is the site where every route begins and ends.
const depot = 0

// Area is what plans are judged by: an instance and the ways between its sites.
type Area struct {
	x   api.Instance
	far [][]int
}

// Open reads the text of an instance. The fields of an Area are set here alone, so the ways are those of all its sites.
func Open(text string) (Area, api.Errno) {
	x, _, fault := instance.Parse(text)
	if fault != api.OK {
		return Area{}, fault
	}
	far := ways.Between(x)
	return Area{x: x, far: far}, api.OK
}
