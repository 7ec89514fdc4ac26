package lattice

func (t Table) isOrder() bool {
	if !t.isReflexive() {
		return false
	}
	if !t.isAntisymmetric() {
		return false
	}
	return t.isTransitive()
}

func (t Table) isReflexive() bool {
	for a := 0; a < t.Levels; a++ {
		if !t.Below(a, a) {
			return false
		}
	}
	return true
}

func (t Table) isAntisymmetric() bool {
	for a := 0; a < t.Levels; a++ {
		for b := a + 1; b < t.Levels; b++ {
			up := t.Below(a, b)
			down := t.Below(b, a)
			if up && down {
				return false
			}
		}
	}
	return true
}

func (t Table) isTransitive() bool {
	for a := 0; a < t.Levels; a++ {
		for b := 0; b < t.Levels; b++ {
			if !t.Below(a, b) {
				continue
			}
			if !t.reachesAllOf(a, b) {
				return false
			}
		}
	}
	return true
}

// reachesAllOf tells whether a is at or below all that b is at or below.
func (t Table) reachesAllOf(a int, b int) bool {
	for c := 0; c < t.Levels; c++ {
		fromB := t.Below(b, c)
		fromA := t.Below(a, c)
		if fromB && !fromA {
			return false
		}
	}
	return true
}

func (t Table) isLattice() bool {
	for a := 0; a < t.Levels; a++ {
		for b := 0; b < t.Levels; b++ {
			_, hasJoin := t.Join(a, b)
			_, hasMeet := t.Meet(a, b)
			if !hasJoin || !hasMeet {
				return false
			}
		}
	}
	return true
}

// Join tells the join of two levels; false, if they have none.
func (t Table) Join(a int, b int) (int, bool) {
	for c := 0; c < t.Levels; c++ {
		if t.isJoin(a, b, c) {
			return c, true
		}
	}
	return 0, false
}

// Meet tells the meet of two levels; false, if they have none.
func (t Table) Meet(a int, b int) (int, bool) {
	for c := 0; c < t.Levels; c++ {
		if t.isMeet(a, b, c) {
			return c, true
		}
	}
	return 0, false
}

// Bottom tells the bottom; 0, if the table has none.
func (t Table) Bottom() int {
	for a := 0; a < t.Levels; a++ {
		if t.isBelowAll(a) {
			return a
		}
	}
	return 0
}

func (t Table) isBelowAll(a int) bool {
	for b := 0; b < t.Levels; b++ {
		if !t.Below(a, b) {
			return false
		}
	}
	return true
}

func (t Table) isJoin(a int, b int, c int) bool {
	if !t.isAboveBoth(a, b, c) {
		return false
	}
	for d := 0; d < t.Levels; d++ {
		rival := t.isAboveBoth(a, b, d)
		lower := t.Below(c, d)
		if d != c && rival && !lower {
			return false
		}
	}
	return true
}

func (t Table) isMeet(a int, b int, c int) bool {
	if !t.isBelowBoth(a, b, c) {
		return false
	}
	for d := 0; d < t.Levels; d++ {
		rival := t.isBelowBoth(a, b, d)
		higher := t.Below(d, c)
		if d != c && rival && !higher {
			return false
		}
	}
	return true
}

func (t Table) isAboveBoth(a int, b int, c int) bool {
	first := t.Below(a, c)
	second := t.Below(b, c)
	return first && second
}

func (t Table) isBelowBoth(a int, b int, c int) bool {
	first := t.Below(c, a)
	second := t.Below(c, b)
	return first && second
}
