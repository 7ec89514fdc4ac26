package program

import (
	"testing"

	"sluice/api"
)

func TestInstruction(t *testing.T) {
	file, errno := Open("S\x021101\x02\x00\x01\x03\x00\xff\x02\x01\x08\x03")
	if errno != api.OK {
		t.Fatalf("P4: error %d", errno)
	}
	for _, c := range []struct{ place, operation, operand int }{
		{0, api.Push, 255}, {1, api.Store, 1}, {2, api.Jump, 3},
		{3, api.Jump, 3}, {-1, api.Jump, 3}, {1 << 62, api.Jump, 3}, {-1 << 63, api.Jump, 3},
	} {
		operation, operand := file.Instruction(c.place)
		if operation != c.operation || operand != c.operand {
			t.Errorf("Instruction(%d) = %d, %d, want %d, %d", c.place, operation, operand, c.operation, c.operand)
		}
	}
	if file.Length() != 3 {
		t.Errorf("%d instructions", file.Length())
	}
}

func TestErrorsLeaveNothing(t *testing.T) {
	for _, text := range []string{"", "S\x021111\x00\x00", "S\x021001\x00\x00", "S\x021101\x00\x01\x0c\x00"} {
		if file, errno := Open(text); errno == api.OK || file != (File{}) {
			t.Errorf("P1: Open(%q) = %v, %d", text, file, errno)
		}
	}
}

func TestBehind(t *testing.T) {
	file, errno := Open("S\x011\x01\x00\x04\x09\x03\x08\x00\x02\x00\x09\x04")
	if errno != api.OK {
		t.Fatalf("P4: error %d", errno)
	}
	for _, c := range []struct{ place, next, other int }{
		{0, 1, 3}, {1, 0, 0}, {2, 3, 3}, {3, 4, 4}, {4, 4, 4}, {-1, 4, 4}, {1<<63 - 1, 4, 4},
	} {
		next, other := file.Behind(c.place)
		if next != c.next || other != c.other {
			t.Errorf("Behind(%d) = %d, %d, want %d, %d", c.place, next, other, c.next, c.other)
		}
	}
}

func TestLevelOfAVariable(t *testing.T) {
	file, _ := Open("S\x0211\x30\x31\x03\x01\x00\x01\x00")
	for _, c := range []struct{ variable, level int }{
		{0, 1}, {1, 0}, {2, 1}, {3, 0}, {-1, 0}, {1 << 62, 0}, {-1 << 63, 0},
	} {
		if level := file.Level(c.variable); level != c.level {
			t.Errorf("Level(%d) = %d, want %d", c.variable, level, c.level)
		}
	}
}
