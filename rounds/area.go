// Package rounds: plans: their texts, what they cost, and how they are made cheaper.
package rounds

import (
	"depot/api"
	"depot/instance"
	"depot/ways"
)

// depot is the site where every route begins and ends.
const depot = 0

// Area is what plans are judged by: an instance and the ways between its sites.
type Area struct {
	x   api.Instance
	far [][]int
}

// Open reads the text of an instance.
func Open(text string) (Area, api.Errno) {
	x, _, fault := instance.Parse(text)
	if fault != api.OK {
		return Area{}, fault
	}
	return Of(x), api.OK
}

// Of is the area of an instance; one without stops and vans, if x is none. The fields of an Area are set here alone, so the ways are those of all its sites.
func Of(x api.Instance) Area {
	far := ways.Between(x)
	if len(far) == 0 {
		return Area{}
	}
	return Area{x: x, far: far}
}
