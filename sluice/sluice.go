// Package sluice: small programs whose secrets do not run out: see DOC.md.
package sluice

import (
	"sluice/api"
	"sluice/check"
	"sluice/flow"
	"sluice/lattice"
	"sluice/machine"
	"sluice/program"
	"sluice/translation"
)

// Levels tells how many levels a table has (P3).
func Levels(table string) (int, api.Errno) {
	order, errno := lattice.Open(table)
	return order.Levels, errno
}

// Join tells the join of two levels (P3).
func Join(table string, a int, b int) (int, api.Errno) {
	order, errno := openWith(table, a, b)
	if errno != api.OK {
		return 0, errno
	}
	level, _ := order.Join(a, b)
	return level, api.OK
}

// Meet tells the meet of two levels (P3).
func Meet(table string, a int, b int) (int, api.Errno) {
	order, errno := openWith(table, a, b)
	if errno != api.OK {
		return 0, errno
	}
	level, _ := order.Meet(a, b)
	return level, api.OK
}

// openWith reads a table that is a lattice and has both levels.
func openWith(table string, a int, b int) (lattice.Table, api.Errno) {
	order, errno := lattice.Open(table)
	if errno != api.OK {
		return lattice.Table{}, errno
	}
	if !order.Has(a) {
		return lattice.Table{}, api.ErrNumber
	}
	if !order.Has(b) {
		return lattice.Table{}, api.ErrNumber
	}
	return order, api.OK
}

// Scan tells what a file has (P4).
func Scan(file string) (api.Info, api.Errno) {
	parts, errno := program.Open(file)
	if errno != api.OK {
		return api.Info{}, errno
	}
	return parts.Info(), api.OK
}

// Check tells whether a file is let through (P5).
func Check(file string) (int, api.Errno) {
	parts, errno := program.Open(file)
	if errno != api.OK {
		return 0, errno
	}
	return check.Judge(parts)
}

// Run runs a file that is let through (P6).
func Run(file string, tapes api.Tapes, fuel int) (api.Result, api.Errno) {
	parts, errno := program.Open(file)
	if errno != api.OK {
		return api.Result{}, errno
	}
	_, errno = check.Judge(parts)
	if errno != api.OK {
		return api.Result{}, errno
	}
	if fuel < 0 || fuel > api.MaxFuel {
		return api.Result{}, api.ErrNumber
	}
	return machine.Run(parts, tapes, fuel), api.OK
}

// Translate makes a file of a source (P9).
func Translate(source string) (string, int, api.Errno) {
	draft, place, errno := translation.Open(source)
	if errno != api.OK {
		return "", place, errno
	}
	return draft.File(), 0, api.OK
}

// Compile makes a file of a source whose secrets do not run out (P10).
func Compile(source string) (string, int, api.Errno) {
	draft, place, errno := translation.Open(source)
	if errno != api.OK {
		return "", place, errno
	}
	if draft.Height > api.MaxStack {
		return "", 0, api.ErrStack
	}
	place, found := flow.FirstLeak(draft.Table, draft.Statements)
	if found {
		return "", place, api.ErrFlow
	}
	return draft.File(), 0, api.OK
}
