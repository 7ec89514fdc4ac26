// Package paths tells where the paths of a program lead.
package paths

import "sluice/program"

// nowhere is no place: a barrier that no path meets.
const nowhere = -1

// Live tells the places to which there is a path from place 0.
func Live(file program.File) Set {
	live := Set{}
	live.follow(file, 0, nowhere)
	return live
}

// Region tells the region of a ZERO whose junction is given.
func Region(file program.File, zero int, junction int) Set {
	next, other := file.Behind(zero)
	region := Set{}
	region.follow(file, next, junction)
	region.follow(file, other, junction)
	return region
}

// follow lays in all places to which a path leads that begins at the place and
// does not meet the barrier. What is in the set already was followed before.
func (s *Set) follow(file program.File, place int, barrier int) {
	if place == barrier {
		return
	}
	if !s.Add(place) {
		return
	}
	next, other := file.Behind(place)
	s.follow(file, next, barrier)
	s.follow(file, other, barrier)
}
