package sluice_test

import (
	"fmt"
	"math/rand"
	"strconv"

	"sluice/api"
)

// expr is an expression: a number, a letter, a tape, or two and an operator.
type expr struct {
	sign        byte // 0, x, $ or the operator
	value       int  // the number, the variable, the level
	left, right *expr
}

// stmt is a statement; two tells whether it has a second block.
type stmt struct {
	sign          byte // = > ? @
	target        int  // the variable or the level
	value         *expr
	first, second []*stmt
	two           bool
	at            int // where the text has it
}

// tree is a source, looked at word by word as the document has it.
type tree struct {
	levels int
	pairs  [][2]int
	vars   string // the letters, in their order
	rank   []int  // their levels
	body   []*stmt
}

// table is the order: what follows from the pairs, taken again and again.
func (s tree) table() string {
	below := [6][6]bool{}
	for level := range below {
		below[level][level] = true
	}
	for _, one := range s.pairs {
		below[one[0]][one[1]] = true
	}
	for before := below; ; before = below {
		for place := range 6 * 6 * 6 {
			a, b, c := place/36, place/6%6, place%6
			below[a][c] = below[a][c] || below[a][b] && below[b][c]
		}
		if below == before {
			break
		}
	}
	table := ""
	for place := range s.levels * s.levels {
		bit := "0"
		if below[place/s.levels][place%s.levels] {
			bit = "1"
		}
		table += bit
	}
	return table
}

// code is P9.
func (s tree) code() code {
	c := code{table: s.table()}
	for _, level := range s.rank {
		c.vars += string([]byte{byte(level)})
	}
	for _, one := range s.body {
		c.text = append(c.text, one.code(c.end())...)
	}
	return c
}

func (e *expr) code() []byte {
	switch e.sign {
	case '0':
		return []byte{push, byte(e.value)}
	case 'x':
		return []byte{load, byte(e.value)}
	case '$':
		return []byte{in, byte(e.value)}
	}
	operations := map[byte]byte{'+': add, '-': sub, '*': mul, '<': less, '~': same}
	return append(append(e.left.code(), e.right.code()...), operations[e.sign], 0)
}

func (one *stmt) code(begin int) []byte {
	value := one.value.code()
	block := func(list []*stmt, at int) []byte {
		text := []byte{}
		for _, inner := range list {
			text = append(text, inner.code(at+len(text)/2)...)
		}
		return text
	}
	inside := begin + len(value)/2 + 1
	switch one.sign {
	case '=':
		return append(value, store, byte(one.target))
	case '>':
		return append(value, out, byte(one.target))
	case '@':
		text := block(one.first, inside)
		behind := inside + len(text)/2 + 1
		return append(append(append(value, zero, byte(behind)), text...), jump, byte(begin))
	}
	text := block(one.first, inside)
	behind := inside + len(text)/2
	if !one.two {
		return append(append(value, zero, byte(behind)), text...)
	}
	other := block(one.second, behind+1)
	value = append(append(value, zero, byte(behind+1)), text...)
	return append(append(value, jump, byte(behind+1+len(other)/2)), other...)
}

// need tells how many values an expression has on the stack at once.
func (e *expr) need() int {
	if e.left == nil {
		return 1
	}
	return max(e.left.need(), 1+e.right.need())
}

func each(list []*stmt, do func(*stmt)) {
	for _, one := range list {
		do(one)
		each(one.first, do)
		each(one.second, do)
	}
}

// judge is P10, of a source whose text was made: the statement that breaks a rule, if one does.
func (s tree) judge() (*stmt, api.Errno) {
	deep := false
	each(s.body, func(one *stmt) { deep = deep || one.value.need() > 8 })
	if deep {
		return nil, api.ErrStack
	}
	leak := s.leakIn(code{table: s.table()}, s.body, 0)
	if leak != nil {
		return leak, api.ErrFlow
	}
	return nil, api.OK
}

// taints tells the levels of an expression's letters and tapes, and of its tapes alone.
func (s tree) taints(e *expr) (taint, taint) {
	switch e.sign {
	case '0':
		return 0, 0
	case 'x':
		return 1 << s.rank[e.value], 0
	case '$':
		return 1 << e.value, 1 << e.value
	}
	left, tapesLeft := s.taints(e.left)
	right, tapesRight := s.taints(e.right)
	return left | right, tapesLeft | tapesRight
}

func (s tree) leakIn(c code, list []*stmt, context taint) *stmt {
	for _, one := range list {
		level, tapes := s.taints(one.value)
		bound := context
		if one.sign == '@' {
			bound |= level
		}
		for tape := 0; tape < s.levels; tape++ {
			if tapes>>tape&1 == 1 && !c.fits(bound, tape) {
				return one
			}
		}
		if one.sign == '=' && !c.fits(context|level, s.rank[one.target]) || one.sign == '>' && !c.fits(context|level, one.target) {
			return one
		}
		if leak := s.leakIn(c, one.first, context|level); leak != nil {
			return leak
		}
		if leak := s.leakIn(c, one.second, context|level); leak != nil {
			return leak
		}
	}
	return nil
}

// printer writes tokens with blanks between them.
type printer struct {
	source *rand.Rand // nil: no blanks
	text   []byte
}

func (p *printer) blank() {
	for p.source != nil && p.source.Intn(4) == 0 {
		p.text = append(p.text, " \n"[p.source.Intn(2)])
	}
}

// put writes tokens of one byte each.
func (p *printer) put(tokens string) {
	for i := range len(tokens) {
		p.blank()
		p.text = append(p.text, tokens[i])
	}
}

// chance is false without a source, so that no more stands there than must.
func (p *printer) chance(of int) bool { return p.source != nil && p.source.Intn(of) == 0 }

// text is P8; the places of the statements are noted. Without a source of chance it is the shortest.
func (s tree) text(source *rand.Rand) string {
	p := &printer{source: source}
	p.put(fmt.Sprint(s.levels))
	for _, one := range s.pairs {
		p.put(fmt.Sprint(one[0]))
		p.put(fmt.Sprint(one[1]))
	}
	p.put(".")
	for i, level := range s.rank {
		p.put(s.vars[i:i+1] + fmt.Sprint(level))
	}
	p.put(".")
	p.list(s, s.body)
	p.blank()
	return string(p.text)
}

func (p *printer) list(s tree, list []*stmt) {
	for _, one := range list {
		p.blank()
		one.at = len(p.text)
		switch one.sign {
		case '=':
			p.text = append(p.text, s.vars[one.target])
			p.put("=")
		case '>':
			p.text = append(p.text, '>')
			p.put(fmt.Sprint(one.target))
		default:
			p.text = append(p.text, one.sign)
		}
		p.expr(s, one.value)
		if one.sign == '=' || one.sign == '>' {
			p.put(";")
			continue
		}
		p.put("{")
		p.list(s, one.first)
		p.put("}")
		if one.two {
			p.put(":{")
			p.list(s, one.second)
			p.put("}")
		}
	}
}

func (p *printer) expr(s tree, e *expr) {
	switch e.sign {
	case '0':
		p.blank()
		if p.chance(20) {
			p.text = append(p.text, "000"[:1+p.source.Intn(3)]...)
		}
		p.text = strconv.AppendInt(p.text, int64(e.value), 10)
		return
	case 'x':
		p.put(s.vars[e.value : e.value+1])
		return
	case '$':
		p.put("$" + fmt.Sprint(e.value))
		return
	}
	p.operand(s, e.left, false)
	p.put(string([]byte{e.sign}))
	p.operand(s, e.right, e.right.left != nil)
}

// operand writes brackets where they must be, and at times where they may be.
func (p *printer) operand(s tree, e *expr, bracket bool) {
	if !bracket && !p.chance(8) {
		p.expr(s, e)
		return
	}
	p.put("(")
	p.expr(s, e)
	p.put(")")
}

// life is a source on its way.
type life struct {
	s      tree
	tapes  api.Tapes
	fuel   int
	vars   []byte
	result api.Result
}

// step counts an instruction of P9's code; false, if there is no fuel for it.
func (l *life) step() bool {
	if l.result.Steps == l.fuel {
		return false
	}
	l.result.Steps++
	return true
}

// run is P8's meaning. The code of P9 tells only how long it takes.
func (s tree) run(tapes api.Tapes, fuel int) api.Result {
	l := &life{s: s, tapes: tapes, fuel: fuel, vars: make([]byte, len(s.rank))}
	l.result.End = 2
	if l.do(s.body) {
		l.result.End = 1
	}
	l.result.Vars = string(l.vars)
	return l.result
}

func (l *life) do(list []*stmt) bool {
	for _, one := range list {
		if !l.doOne(one) {
			return false
		}
	}
	return true
}

func (l *life) doOne(one *stmt) bool {
	value, ok := l.value(one.value)
	if !ok || !l.step() {
		return false
	}
	switch one.sign {
	case '=':
		l.vars[one.target] = value
	case '>':
		l.result.Logs[one.target] += string([]byte{value})
	case '?':
		if value == 0 {
			return l.do(one.second)
		}
		return l.do(one.first) && (!one.two || l.step())
	case '@':
		return value == 0 || l.do(one.first) && l.step() && l.doOne(one)
	}
	return true
}

func (l *life) value(e *expr) (byte, bool) {
	var left, right byte
	if e.left != nil {
		var ok, okRight bool
		left, ok = l.value(e.left)
		if ok {
			right, okRight = l.value(e.right)
		}
		if !okRight {
			return 0, false
		}
	}
	if !l.step() {
		return 0, false
	}
	switch e.sign {
	case '0':
		return byte(e.value), true
	case 'x':
		return l.vars[e.value], true
	case '$':
		value := (l.tapes[e.value] + "\x00")[0]
		l.tapes[e.value] = l.tapes[e.value][min(1, len(l.tapes[e.value])):]
		return value, true
	case '+':
		return left + right, true
	case '-':
		return left - right, true
	case '*':
		return left * right, true
	}
	if e.sign == '<' && left < right || e.sign == '~' && left == right {
		return 1, true
	}
	return 0, true
}
