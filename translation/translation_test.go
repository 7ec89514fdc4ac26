package translation

import (
	"reflect"
	"testing"

	"sluice/api"
	"sluice/lattice"
)

func setOf(levels ...int) lattice.Set {
	set := lattice.Set{}
	for _, level := range levels {
		set.Add(level)
	}
	return set
}

// What the rules of secrecy are told of each statement.
func TestP10Statements(t *testing.T) {
	draft, place, errno := Open("3 01 12.a0 c2. >1 a+$2-($0*5); ?c{ @$1{} c=1; }:{ a=a; } c=$0;")
	if place != 0 || errno != api.OK {
		t.Fatalf("P9: %d, %d", place, errno)
	}
	want := []Statement{
		{Write, 15, NoBlock, 1, setOf(0, 2), setOf(0, 2)},
		{Choose, 31, NoBlock, 0, setOf(2), setOf()},
		{Repeat, 35, 1, 0, setOf(1), setOf(1)},
		{Assign, 41, 1, 2, setOf(), setOf()},
		{Assign, 50, 1, 0, setOf(0), setOf()},
		{Assign, 57, NoBlock, 2, setOf(0), setOf(0)},
	}
	if !reflect.DeepEqual(draft.Statements, want) {
		t.Errorf("P10: %+v, want %+v", draft.Statements, want)
	}
}

func TestP10Heights(t *testing.T) {
	for _, c := range []struct {
		source string
		height int
	}{
		{"1..", 0}, {"1..>0 1;", 1}, {"1..>0 1+2;", 2}, {"1..>0 1+2+3;", 2}, {"1..>0 1+(2+3);", 3}, {"1..>0((((1))));", 1},
		{"1..>0 1+(2+3);>0 1;", 3}, {"1..>0 1;?1+(2+(3+4)){@1+1{}}", 4}, {"1..>0 (1+(2+3))+(1+2);", 3}, {"1..>0 1+(2+(3+(4+(5+(6+(7+(8+9)))))));", 9},
	} {
		if draft, _, errno := Open(c.source); draft.Height != c.height || errno != api.OK {
			t.Errorf("P10: %q: height %d, want %d, error %d", c.source, draft.Height, c.height, errno)
		}
	}
}

func TestErrorsLeaveNothing(t *testing.T) {
	for _, source := range []string{"", "1.a0.a=1;b=1;", "2.a0.a=1;", "2 01 10.a0.a=1;", "1.a0.a=1;}"} {
		if draft, _, errno := Open(source); errno == api.OK || !reflect.DeepEqual(draft, Draft{}) {
			t.Errorf("P1: %q: %+v, %d", source, draft, errno)
		}
	}
}

// At a fault the reader stops for good.
func TestReaderStops(t *testing.T) {
	r := reader{text: " x 1.1"}
	r.take('1')
	for range 3 {
		r.take('x')
		r.skip()
		r.takeDigit(1, 1)
		r.refuse(api.ErrName)
		if r.peek() != 0 || r.takeNumber() != 0 || r.isBefore('.') || r.isBeforeEnd() {
			t.Errorf("P9: it reads on: %+v", r)
		}
	}
	if r.at != 1 || r.errno != api.ErrSyntax {
		t.Errorf("P9: it stands at %d, error %d", r.at, r.errno)
	}
}

func TestNumbersOfNothing(t *testing.T) {
	u := translator{vars: []byte{1}, code: []byte{api.Zero, 7}}
	for _, number := range []int{-1, 1, 2, 1 << 61, -1 << 62} {
		if u.levelOf(number) != 0 {
			t.Errorf("variable %d: level %d", number, u.levelOf(number))
		}
		u.aim(number)
	}
	if u.code[1] != 7 || u.levelOf(0) != 1 {
		t.Errorf("%+v", u)
	}
}
