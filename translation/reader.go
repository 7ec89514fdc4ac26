package translation

import "sluice/api"

// reader goes through a source token by token. At the first byte that cannot
// stand where it stands it stops for good: it shows nothing more and takes
// nothing more, so that whoever reads on comes to an end without asking.
type reader struct {
	text  string
	at    int
	errno api.Errno
}

func (r *reader) refuse(errno api.Errno) {
	if r.errno == api.OK {
		r.errno = errno
	}
}

// here shows the byte at the reader's place. Behind the last one it shows 0, which
// fits nowhere: what ends early is refused at its length.
func (r *reader) here() byte {
	if r.errno != api.OK || r.at < 0 || r.at >= len(r.text) {
		return 0
	}
	return r.text[r.at]
}

// peek goes to the next token and shows its first byte.
func (r *reader) peek() byte {
	next := r.here()
	for next == ' ' || next == '\n' {
		r.at++
		next = r.here()
	}
	return next
}

// skip takes the byte that peek has shown.
func (r *reader) skip() {
	if r.errno == api.OK {
		r.at++
	}
}

// take takes the one token that may stand here.
func (r *reader) take(token byte) {
	next := r.peek()
	if next != token {
		r.refuse(api.ErrSyntax)
		return
	}
	r.skip()
}

// takeDigit takes a digit from low to high.
func (r *reader) takeDigit(low int, high int) int {
	next := r.peek()
	digit := int(next) - '0'
	if digit < low || digit > high {
		r.refuse(api.ErrSyntax)
		return 0
	}
	r.skip()
	return digit
}

// takeNumber takes the digits of a number, up to its last one or up to the one
// that would make it too great.
func (r *reader) takeNumber() int {
	value := 0
	for next := r.here(); isDigit(next); next = r.here() {
		value = 10*value + int(next) - '0'
		if value > 255 {
			r.refuse(api.ErrSyntax)
			return 0
		}
		r.skip()
	}
	return value
}

// isBefore tells whether something else stands ahead of a closing token.
func (r *reader) isBefore(closing byte) bool {
	next := r.peek()
	return r.errno == api.OK && next != closing
}

// isBeforeEnd tells whether something but blanks stands ahead of the end. It
// does not ask what peek shows: a byte 0 in the text is not the end.
func (r *reader) isBeforeEnd() bool {
	r.peek()
	return r.errno == api.OK && r.at < len(r.text)
}

func isDigit(token byte) bool {
	return token >= '0' && token <= '9'
}

func isLetter(token byte) bool {
	return token >= 'a' && token <= 'h'
}
