// Package machine runs programs that were let through.
package machine

import (
	"sluice/api"
	"sluice/program"
)

// machine is a program on its way. A program that was let through never pops from
// an empty stack nor pushes on a full one; of any other, such a pop gives 0 and
// such a push is lost.
type machine struct {
	file   program.File
	tapes  api.Tapes
	place  int
	stack  [api.MaxStack]int
	height int
	vars   [api.MaxVars]int
	taken  [api.MaxLevels]int // how many values of each tape were read
	logs   [api.MaxLevels][]byte
}

// Run goes through a program until it is at the end or has done as many
// instructions as fuel says.
func Run(file program.File, tapes api.Tapes, fuel int) api.Result {
	m := machine{file: file, tapes: tapes}
	end := file.Length()
	steps := 0
	for steps < fuel && m.place != end {
		m.step()
		steps++
	}
	result := api.Result{End: 2, Steps: steps}
	if m.place == end {
		result.End = 1
	}
	result.Logs = m.allLogs()
	result.Vars = m.allVars()
	return result
}

// step does the instruction at the place where the program is.
func (m *machine) step() {
	operation, operand := m.file.Instruction(m.place)
	next, other := m.file.Behind(m.place)
	switch operation {
	case api.Push:
		m.push(operand)
	case api.Load:
		m.load(operand)
	case api.Store:
		m.store(operand)
	case api.Add, api.Sub, api.Mul, api.Less, api.Same:
		m.reckon(operation)
	case api.Zero:
		value := m.pop()
		if value == 0 {
			next = other
		}
	case api.In:
		m.read(operand)
	case api.Out:
		m.write(operand)
	}
	m.place = next
}

// reckon pops two values and pushes what the operation makes of them.
func (m *machine) reckon(operation int) {
	b := m.pop()
	a := m.pop()
	value := combine(operation, a, b)
	m.push(value)
}

func combine(operation int, a int, b int) int {
	switch operation {
	case api.Add:
		return (a + b) % 256
	case api.Sub:
		return (a + 256 - b) % 256
	case api.Mul:
		return a * b % 256
	case api.Less:
		return oneIf(a < b)
	}
	return oneIf(a == b)
}

func oneIf(holds bool) int {
	if holds {
		return 1
	}
	return 0
}
