package machine

import (
	"testing"

	"sluice/api"
	"sluice/program"
)

func open(t *testing.T, text string) program.File {
	t.Helper()
	file, errno := program.Open(text)
	if errno != api.OK {
		t.Fatalf("P4: Open(%q): error %d", text, errno)
	}
	return file
}

// Programs that are not let through do no harm either.
func TestFilesNotLetThrough(t *testing.T) {
	for _, c := range []struct {
		name, text string
		fuel       int
		want       api.Result
	}{
		{"OUT of nothing", "S\x011\x00\x01\x0b\x00", 9, api.Result{End: 1, Steps: 1, Logs: api.Tapes{"\x00"}}},
		{"ADD of nothing, then OUT", "S\x011\x00\x02\x03\x00\x0b\x00", 9, api.Result{End: 1, Steps: 2, Logs: api.Tapes{"\x00"}}},
		{"SUB of one value", "S\x011\x00\x03\x00\x05\x04\x00\x0b\x00", 9, api.Result{End: 1, Steps: 3, Logs: api.Tapes{"\xfb"}}},
		{"a ring that pushes", "S\x011\x00\x02\x00\x05\x08\x00", 1000, api.Result{End: 2, Steps: 1000}},
		{"a ring that pops", "S\x011\x01\x00\x02\x02\x00\x08\x00", 1000, api.Result{End: 2, Steps: 1000, Vars: "\x00"}},
		{"fuel below 0", "S\x011\x00\x01\x08\x01", -1, api.Result{End: 2}},
	} {
		if result := Run(open(t, c.text), api.Tapes{}, c.fuel); result != c.want {
			t.Errorf("%s: %+v, want %+v", c.name, result, c.want)
		}
	}
}

func TestFullStack(t *testing.T) {
	m := machine{file: open(t, "S\x011\x00\x00")}
	for value := 1; value <= 10; value++ {
		m.push(value)
	}
	for want := 8; want >= 0; want-- {
		if value := m.pop(); value != want {
			t.Errorf("popped %d, want %d", value, want)
		}
	}
}

func TestNumbersOfNothing(t *testing.T) {
	for _, number := range []int{-1, 8, 9, 1 << 62, -1 << 63} {
		m := machine{file: open(t, "S\x011\x00\x00")}
		m.push(7)
		m.load(number)
		m.store(number)
		m.read(number)
		m.write(number)
		if m.height != 1 || m.stack[0] != 7 {
			t.Errorf("%d: %+v", number, m)
		}
	}
	m := machine{}
	m.read(6)
	m.write(6)
	if m.height != 0 {
		t.Errorf("level 6: %+v", m)
	}
}
