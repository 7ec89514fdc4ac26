// Package flow tells whether the statements of a source let a secret out.
package flow

import (
	"sluice/lattice"
	"sluice/translation"
)

// FirstLeak tells the place of the first statement that breaks a rule; false, if there is none.
func FirstLeak(table lattice.Table, statements []translation.Statement) (int, bool) {
	inner := []int{} // for each statement the context of those in its blocks
	for i := 0; i < len(statements); i++ {
		s := statements[i]
		context := contextOf(s, inner, table)
		read := table.JoinOf(s.Reads)
		level, _ := table.Join(context, read)
		if leaks(s, table, context, level) {
			return s.Place, true
		}
		inner = append(inner, level)
	}
	return 0, false
}

func contextOf(s translation.Statement, inner []int, table lattice.Table) int {
	if s.Outer < 0 || s.Outer >= len(inner) {
		return table.Bottom()
	}
	return inner[s.Outer]
}

// leaks holds a statement to the rules; level is the join of its context and of
// its expression's level.
func leaks(s translation.Statement, table lattice.Table, context int, level int) bool {
	switch s.Kind {
	case translation.Assign, translation.Write:
		if !table.Below(level, s.Target) {
			return true
		}
	case translation.Repeat:
		// Whether the expression is taken anew hangs on what it was before.
		context = level
	}
	return takesTooLow(s.Tapes, table, context)
}

// takesTooLow tells whether the context is not at or below one of the tapes.
func takesTooLow(tapes lattice.Set, table lattice.Table, context int) bool {
	for tape := 0; tape < table.Levels; tape++ {
		if !tapes.Has(tape) {
			continue
		}
		if !table.Below(context, tape) {
			return true
		}
	}
	return false
}
