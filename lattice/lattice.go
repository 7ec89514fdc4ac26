// Package lattice reads tables of levels and answers what their order says.
package lattice

import "sluice/api"

// Table is a table of levels. It is an order and a lattice only where Judge has said so.
type Table struct {
	Levels int
	text   string
}

// Open reads a table that is a lattice, or tells why the text is none.
func Open(text string) (Table, api.Errno) {
	table, ok := Read(text)
	if !ok {
		return Table{}, api.ErrTable
	}
	errno := table.Judge()
	if errno != api.OK {
		return Table{}, errno
	}
	return table, api.OK
}

// Read takes any table, be it an order or not; false, if the text is no table.
func Read(text string) (Table, bool) {
	// The length comes first, so that a long text is never walked through.
	levels := side(len(text))
	if levels == 0 {
		return Table{}, false
	}
	if !hasBitsAlone(text) {
		return Table{}, false
	}
	return Table{Levels: levels, text: text}, true
}

// side tells how many levels a table of that length has; 0, if there is no such table.
func side(length int) int {
	for n := 1; n <= api.MaxLevels; n++ {
		if n*n == length {
			return n
		}
	}
	return 0
}

func hasBitsAlone(text string) bool {
	for i := 0; i < len(text); i++ {
		if text[i] != '0' && text[i] != '1' {
			return false
		}
	}
	return true
}

// Judge tells whether the table is an order, and a lattice.
func (t Table) Judge() api.Errno {
	if !t.isOrder() {
		return api.ErrOrder
	}
	if !t.isLattice() {
		return api.ErrLattice
	}
	return api.OK
}

// Text tells the bytes of the table.
func (t Table) Text() string {
	return t.text
}

// Has tells whether the number is a level of the table.
func (t Table) Has(level int) bool {
	return level >= 0 && level < t.Levels
}

// Below tells whether level a is at or below level b.
func (t Table) Below(a int, b int) bool {
	if a < 0 || a >= t.Levels || b < 0 || b >= t.Levels {
		return false
	}
	i := a*t.Levels + b
	return i < len(t.text) && t.text[i] == '1'
}
