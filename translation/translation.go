// Package translation reads sources and makes code of them.
package translation

import (
	"sluice/api"
	"sluice/lattice"
	"sluice/program"
)

// The kinds of statements.
const (
	Assign = 1
	Write  = 2
	Choose = 3
	Repeat = 4
)

// NoBlock is what Outer says of a statement that stands in no block.
const NoBlock = -1

// Statement is what the rules of secrecy ask about a statement.
type Statement struct {
	Kind   int
	Place  int         // of its first byte
	Outer  int         // the number of the statement in whose block it stands
	Target int         // the level of the variable or log that it writes to
	Reads  lattice.Set // the levels of its expression's letters and tapes
	Tapes  lattice.Set // the levels of these tapes alone
}

// Draft is a source that was read, and the code made of it.
type Draft struct {
	Table      lattice.Table
	Height     int         // how many values lie on the stack at once, where they are most
	Statements []Statement // in the order in which they begin
	vars       []byte
	code       []byte
}

// Open reads a source, or tells the place of the fault and its error.
func Open(source string) (Draft, int, api.Errno) {
	if len(source) > api.MaxSource {
		return Draft{}, 0, api.ErrLong
	}
	t := translator{in: reader{text: source}}
	t.head()
	t.body()
	if t.in.errno != api.OK {
		return Draft{}, t.in.at, t.in.errno
	}
	text := t.pairs.Text()
	table, errno := lattice.Open(text)
	if errno != api.OK {
		return Draft{}, 0, errno
	}
	if t.place() > api.MaxCode {
		return Draft{}, 0, api.ErrBig
	}
	return Draft{Table: table, Height: t.highest, Statements: t.statements, vars: t.vars, code: t.code}, 0, api.OK
}

// File writes the file.
func (d Draft) File() string {
	return program.Write(d.Table, d.vars, d.code)
}
