package program

import (
	"strings"
	"testing"

	"sluice/api"
	"sluice/lattice"
)

// What is written is what is taken apart.
func TestP9Write(t *testing.T) {
	most := []byte(strings.Repeat("\x0b\x05", 200))
	for _, c := range []struct{ table, vars, code, want string }{
		{"1", "", "", "S\x011\x00\x00"},
		{"1101", "\x01", "\x0a\x00\x02\x00", "S\x021101\x01\x01\x02\x0a\x00\x02\x00"},
		{"111011001", "\x02\x00\x01", "\x00\xff\x0b\x02", "S\x03111011001\x03\x02\x00\x01\x02\x00\xff\x0b\x02"},
		{"111111011111001111000111000011000001", "\x00\x01\x02\x03\x04\x05\x04\x03", string(most), "S\x06111111011111001111000111000011000001\x08\x00\x01\x02\x03\x04\x05\x04\x03\xc8" + string(most)},
	} {
		table, errno := lattice.Open(c.table)
		if errno != api.OK {
			t.Fatalf("%q: error %d", c.table, errno)
		}
		text := Write(table, []byte(c.vars), []byte(c.code))
		if text != c.want {
			t.Errorf("P9: %q, want %q", text, c.want)
		}
		file, ok := split(text)
		if !ok || file.Table != table || file.vars != c.vars || file.code != c.code || len(text) > api.MaxFile {
			t.Errorf("P9: %q is taken apart into %v, %t", text, file, ok)
		}
	}
}
