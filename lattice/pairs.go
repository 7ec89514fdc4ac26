package lattice

import "sluice/api"

// Pairs is what follows from pairs of levels, one behind another: whatever is at
// or below a level is at or below all that this one is at or below. Two levels
// may come to be each at or below the other.
type Pairs struct {
	levels int
	below  [api.MaxLevels][api.MaxLevels]bool
}

// NewPairs begins without a pair: each level is at or below itself alone.
func NewPairs(levels int) Pairs {
	p := Pairs{}
	if levels < 0 || levels > api.MaxLevels {
		return p
	}
	p.levels = levels
	for level := range p.below {
		p.below[level][level] = true
	}
	return p
}

// Add says that level a is at or below level b. All that followed before holds
// already, so one round is enough.
func (p *Pairs) Add(a int, b int) {
	if a < 0 || a >= p.levels || b < 0 || b >= p.levels {
		return
	}
	for low := range p.below {
		for high := range p.below {
			if p.has(low, a) && p.has(b, high) {
				p.below[low][high] = true
			}
		}
	}
}

func (p *Pairs) has(a int, b int) bool {
	if a < 0 || a >= len(p.below) || b < 0 || b >= len(p.below) {
		return false
	}
	return p.below[a][b]
}

// Text writes the table.
func (p *Pairs) Text() string {
	text := []byte{}
	for a := 0; a < p.levels; a++ {
		for b := 0; b < p.levels; b++ {
			bit := byte('0')
			if p.has(a, b) {
				bit = '1'
			}
			text = append(text, bit)
		}
	}
	return string(text)
}
