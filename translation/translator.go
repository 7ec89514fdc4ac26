package translation

import (
	"sluice/api"
	"sluice/lattice"
	"sluice/program"
)

// translator makes code of a source while it is read.
type translator struct {
	in         reader
	levels     int
	pairs      lattice.Pairs
	letters    []byte // of the variables
	vars       []byte // their levels
	code       []byte
	height     int
	highest    int
	statements []Statement
}

// head reads what stands ahead of the statements.
func (t *translator) head() {
	t.levels = t.in.takeDigit(1, api.MaxLevels)
	t.pairs = lattice.NewPairs(t.levels)
	for t.in.isBefore('.') {
		low := t.takeLevel()
		high := t.takeLevel()
		t.pairs.Add(low, high)
	}
	t.in.take('.')
	for t.in.isBefore('.') {
		t.declare()
	}
	t.in.take('.')
}

// declare reads a new variable.
func (t *translator) declare() {
	letter := t.in.peek()
	if !isLetter(letter) {
		t.in.refuse(api.ErrSyntax)
		return
	}
	_, known := t.find(letter)
	if known {
		t.in.refuse(api.ErrName)
		return
	}
	t.in.skip()
	level := t.takeLevel()
	t.letters = append(t.letters, letter)
	t.vars = append(t.vars, byte(level))
}

// takeVariable takes the letter of a variable.
func (t *translator) takeVariable() int {
	letter := t.in.peek()
	if !isLetter(letter) {
		t.in.refuse(api.ErrSyntax)
		return 0
	}
	variable, known := t.find(letter)
	if !known {
		t.in.refuse(api.ErrName)
		return 0
	}
	t.in.skip()
	return variable
}

// find tells which variable a letter is; false, if it is none.
func (t *translator) find(letter byte) (int, bool) {
	for variable := 0; variable < len(t.letters); variable++ {
		if t.letters[variable] == letter {
			return variable, true
		}
	}
	return 0, false
}

func (t *translator) takeLevel() int {
	return t.in.takeDigit(0, t.levels-1)
}

func (t *translator) levelOf(variable int) int {
	if variable < 0 || variable >= len(t.vars) {
		return 0
	}
	return int(t.vars[variable])
}

// place tells where the next instruction will stand.
func (t *translator) place() int {
	return len(t.code) / 2
}

// emit lays down an instruction.
func (t *translator) emit(operation int, operand int) {
	t.code = append(t.code, byte(operation), byte(operand))
	t.height += program.Pushes(operation)
	t.height -= program.Pops(operation)
	if t.height > t.highest {
		t.highest = t.height
	}
}

// aim lets an instruction that was laid down earlier go on at the next place.
func (t *translator) aim(earlier int) {
	operand := 2*earlier + 1
	if operand >= 0 && operand < len(t.code) {
		t.code[operand] = byte(t.place())
	}
}
