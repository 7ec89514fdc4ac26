package program

import (
	"testing"

	"sluice/api"
)

func TestInstruction(t *testing.T) {
	file, errno := Open("S\x021101\x02\x00\x01\x03\x00\xff\x02\x01\x08\x03")
	if errno != api.OK {
		t.Fatalf("P4: error %d", errno)
	}
	for _, c := range []struct{ place, operation, operand int }{
		{0, api.Push, 255}, {1, api.Store, 1}, {2, api.Jump, 3},
		{3, api.Jump, 3}, {-1, api.Jump, 3}, {1 << 62, api.Jump, 3}, {-1 << 63, api.Jump, 3},
	} {
		operation, operand := file.Instruction(c.place)
		if operation != c.operation || operand != c.operand {
			t.Errorf("Instruction(%d) = %d, %d, want %d, %d", c.place, operation, operand, c.operation, c.operand)
		}
	}
	if file.Length() != 3 {
		t.Errorf("%d instructions", file.Length())
	}
}

func TestErrorsLeaveNothing(t *testing.T) {
	for _, text := range []string{"", "S\x021111\x00\x00", "S\x021001\x00\x00", "S\x021101\x00\x01\x0c\x00"} {
		if file, errno := Open(text); errno == api.OK || file != (File{}) {
			t.Errorf("P1: Open(%q) = %v, %d", text, file, errno)
		}
	}
}
