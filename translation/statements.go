package translation

import "sluice/api"

func (t *translator) body() {
	for t.in.isBeforeEnd() {
		t.statement(NoBlock)
	}
}

func (t *translator) block(outer int) {
	t.in.take('{')
	for t.in.isBefore('}') {
		t.statement(outer)
	}
	t.in.take('}')
}

func (t *translator) statement(outer int) {
	token := t.in.peek()
	s := Statement{Place: t.in.at, Outer: outer}
	switch token {
	case '>':
		t.write(s)
	case '?':
		t.choose(s)
	case '@':
		t.repeat(s)
	default:
		t.assign(s)
	}
}

// add lays a statement to the others. One with blocks is added ahead of what
// stands in them, so that all are in the order in which they begin.
func (t *translator) add(s Statement) int {
	t.statements = append(t.statements, s)
	return len(t.statements) - 1
}

func (t *translator) assign(s Statement) {
	s.Kind = Assign
	variable := t.takeVariable()
	s.Target = t.levelOf(variable)
	t.in.take('=')
	t.expression(&s)
	t.in.take(';')
	t.emit(api.Store, variable)
	t.add(s)
}

func (t *translator) write(s Statement) {
	s.Kind = Write
	t.in.take('>')
	s.Target = t.takeLevel()
	t.expression(&s)
	t.in.take(';')
	t.emit(api.Out, s.Target)
	t.add(s)
}

func (t *translator) choose(s Statement) {
	s.Kind = Choose
	t.in.take('?')
	t.expression(&s)
	number := t.add(s)
	zero := t.place()
	t.emit(api.Zero, 0)
	t.block(number)
	if t.in.peek() == ':' {
		t.in.skip()
		jump := t.place()
		t.emit(api.Jump, 0)
		t.aim(zero)
		t.block(number)
		t.aim(jump)
		return
	}
	t.aim(zero)
}

func (t *translator) repeat(s Statement) {
	s.Kind = Repeat
	t.in.take('@')
	begin := t.place()
	t.expression(&s)
	number := t.add(s)
	zero := t.place()
	t.emit(api.Zero, 0)
	t.block(number)
	t.emit(api.Jump, begin)
	t.aim(zero)
}
