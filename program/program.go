// Package program takes files of code apart.
package program

import (
	"sluice/api"
	"sluice/lattice"
)

// File is a file taken apart.
type File struct {
	Table lattice.Table
	vars  string // a byte for each variable: its level
	code  string // two bytes for each instruction
}

// Open takes a file apart, or tells why the text is none that may be looked at further.
func Open(text string) (File, api.Errno) {
	if len(text) > api.MaxFile {
		return File{}, api.ErrLong
	}
	file, ok := split(text)
	if !ok {
		return File{}, api.ErrFile
	}
	errno := file.Table.Judge()
	if errno != api.OK {
		return File{}, errno
	}
	if !file.hasSoundCode() {
		return File{}, api.ErrCode
	}
	return file, api.OK
}

// Info tells what the file has.
func (f File) Info() api.Info {
	return api.Info{Levels: f.Table.Levels, Vars: len(f.vars), Code: f.Length()}
}

// Length tells how many instructions there are: the number of the end, too.
func (f File) Length() int {
	return len(f.code) / 2
}

// Instruction tells the operation and the operand of the instruction at a place.
// Where there is none it answers a JUMP to the end, which does nothing.
func (f File) Instruction(place int) (int, int) {
	if place < 0 || place >= len(f.code)/2 {
		return api.Jump, len(f.code) / 2
	}
	return int(f.code[2*place]), int(f.code[2*place+1])
}

// Behind tells the places behind a place: one twice, where there are not two. Of
// the end, which has none behind it, it answers the end.
func (f File) Behind(place int) (int, int) {
	operation, operand := f.Instruction(place)
	switch operation {
	case api.Jump:
		return operand, operand
	case api.Zero:
		return place + 1, operand
	}
	return place + 1, place + 1
}

// Level tells the level of a variable; 0, if there is no such variable.
func (f File) Level(variable int) int {
	if variable < 0 || variable >= len(f.vars) {
		return 0
	}
	return int(f.vars[variable])
}

// Pops tells how many values an operation pops.
func Pops(operation int) int {
	switch operation {
	case api.Add, api.Sub, api.Mul, api.Less, api.Same:
		return 2
	case api.Store, api.Zero, api.Out:
		return 1
	}
	return 0
}

// Pushes tells how many values an operation pushes.
func Pushes(operation int) int {
	switch operation {
	case api.Store, api.Jump, api.Zero, api.Out:
		return 0
	}
	return 1
}

func (f File) hasSoundCode() bool {
	length := f.Length()
	for place := 0; place < length; place++ {
		operation, operand := f.Instruction(place)
		if !f.allows(operation, operand) {
			return false
		}
	}
	return true
}

func (f File) allows(operation int, operand int) bool {
	switch operation {
	case api.Push:
		return true
	case api.Load, api.Store:
		return operand < len(f.vars)
	case api.Add, api.Sub, api.Mul, api.Less, api.Same:
		return operand == 0
	case api.Jump, api.Zero:
		return operand <= f.Length()
	case api.In, api.Out:
		return operand < f.Table.Levels
	}
	return false
}
