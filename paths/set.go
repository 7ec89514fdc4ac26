package paths

import "sluice/api"

// Set is a set of places.
type Set struct {
	in [api.MaxCode + 1]bool
}

// Add tells whether the place was not in the set, and lays it in. A number that
// no place has stays out: whoever adds what is new alone comes to an end.
func (s *Set) Add(place int) bool {
	if place < 0 || place >= len(s.in) || s.in[place] {
		return false
	}
	s.in[place] = true
	return true
}

// Remove tells whether the place was in the set, and takes it out.
func (s *Set) Remove(place int) bool {
	if place < 0 || place >= len(s.in) || !s.in[place] {
		return false
	}
	s.in[place] = false
	return true
}

// Has tells whether the place is in the set.
func (s *Set) Has(place int) bool {
	return place >= 0 && place < len(s.in) && s.in[place]
}
