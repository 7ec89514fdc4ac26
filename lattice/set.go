package lattice

import "sluice/api"

// Set is a set of levels.
type Set struct {
	in [api.MaxLevels]bool
}

// Add lays a level in. A number that no level has stays out.
func (s *Set) Add(level int) {
	if level >= 0 && level < len(s.in) {
		s.in[level] = true
	}
}

// Has tells whether the level is in the set.
func (s *Set) Has(level int) bool {
	return level >= 0 && level < len(s.in) && s.in[level]
}

// JoinOf tells the join of the bottom and of all levels of a set.
func (t Table) JoinOf(levels Set) int {
	join := t.Bottom()
	for level := 0; level < t.Levels; level++ {
		if levels.Has(level) {
			join, _ = t.Join(join, level)
		}
	}
	return join
}
