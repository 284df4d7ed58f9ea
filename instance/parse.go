// Package instance: the text of an instance, read and written, and the bounds of its numbers.
package instance

import "depot/api"

// How many numbers stand behind each letter.
const (
	headNumbers = 5
	stopNumbers = 5
	roadNumbers = 3
)

// reader gathers an instance, line by line.
type reader struct {
	x    api.Instance
	head bool // the D line has been read
}

// Parse reads a text. With a fault it tells the number of the line that has it.
func Parse(text string) (api.Instance, int, api.Errno) {
	if len(text) > api.MaxText {
		return api.Instance{}, 0, api.ErrLong
	}
	r := &reader{}
	list := lines(text)
	for i := 0; i < len(list); i++ {
		fault := r.line(list[i])
		if fault != api.OK {
			return api.Instance{}, i + 1, fault
		}
	}
	if !r.head {
		return api.Instance{}, len(list), api.ErrForm
	}
	return r.x, 0, api.OK
}

// line takes one line in. A line that has a fault leaves the reader as it was.
func (r *reader) line(line string) api.Errno {
	list := fields(line)
	if len(list) == 0 {
		return api.OK
	}
	values, ok := numbers(list[1:])
	if !ok {
		return api.ErrForm
	}
	switch list[0] {
	case "D":
		return r.depot(values)
	case "S":
		return r.stop(values)
	case "R":
		return r.road(values)
	}
	return api.ErrForm
}

func (r *reader) depot(values []int) api.Errno {
	if r.head || len(values) != headNumbers {
		return api.ErrForm
	}
	x := api.Instance{Vans: values[0], Load: values[1], Close: values[2], Nodes: values[3], Home: values[4]}
	if !headFits(x) {
		return api.ErrBound
	}
	r.x = x
	r.head = true
	return api.OK
}

func (r *reader) stop(values []int) api.Errno {
	if !r.head || len(values) != stopNumbers {
		return api.ErrForm
	}
	if len(r.x.Stops) >= api.MaxStops {
		return api.ErrMany
	}
	s := api.Stop{Node: values[0], Want: values[1], From: values[2], Till: values[3], Stay: values[4]}
	if !stopFits(s, r.x.Nodes) {
		return api.ErrBound
	}
	r.x.Stops = append(r.x.Stops, s)
	return api.OK
}

func (r *reader) road(values []int) api.Errno {
	if !r.head || len(values) != roadNumbers {
		return api.ErrForm
	}
	if len(r.x.Roads) >= api.MaxRoads {
		return api.ErrMany
	}
	road := api.Road{A: values[0], B: values[1], Len: values[2]}
	if !roadFits(road, r.x.Nodes) {
		return api.ErrBound
	}
	r.x.Roads = append(r.x.Roads, road)
	return api.OK
}
