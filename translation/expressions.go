package translation

import "sluice/api"

// expression reads an expression and notes what it reads in its statement.
func (t *translator) expression(s *Statement) {
	t.term(s)
	operation, ok := t.takeOperator()
	for ok {
		t.term(s)
		t.emit(operation, 0)
		operation, ok = t.takeOperator()
	}
}

func (t *translator) term(s *Statement) {
	token := t.in.peek()
	switch {
	case isDigit(token):
		value := t.in.takeNumber()
		t.emit(api.Push, value)
	case token == '$':
		t.tape(s)
	case token == '(':
		t.in.skip()
		t.expression(s)
		t.in.take(')')
	default:
		t.letter(s)
	}
}

func (t *translator) tape(s *Statement) {
	t.in.take('$')
	level := t.takeLevel()
	s.Reads.Add(level)
	s.Tapes.Add(level)
	t.emit(api.In, level)
}

func (t *translator) letter(s *Statement) {
	variable := t.takeVariable()
	level := t.levelOf(variable)
	s.Reads.Add(level)
	t.emit(api.Load, variable)
}

// takeOperator takes an operator; false, if none stands here.
func (t *translator) takeOperator() (int, bool) {
	token := t.in.peek()
	operation, ok := operationOf(token)
	if ok {
		t.in.skip()
	}
	return operation, ok
}

func operationOf(token byte) (int, bool) {
	switch token {
	case '+':
		return api.Add, true
	case '-':
		return api.Sub, true
	case '*':
		return api.Mul, true
	case '<':
		return api.Less, true
	case '~':
		return api.Same, true
	}
	return 0, false
}
