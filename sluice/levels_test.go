package sluice_test

import (
	"strings"
	"testing"

	"sluice/api"
	"sluice/sluice"
)

const (
	pair    = "1101"
	diamond = "1111010100110001"
	chain6  = "111111011111001111000111000011000001"
	// 0 below 1 to 4, and these below 5.
	broad6 = "111111010001001001000101000011000001"
	// A pentagon: 0 below 1, 1 below 2, 3 beside both, 4 on top.
	pentagon = "1111101101001010001100001"
	// 0 and 1 below both of 2 and 3, with a bottom 4 and a top 5: 0 and 1 have two upper bounds, none the lowest.
	crossed = "101101011101001001000101111111000001"
)

func TestP3Levels(t *testing.T) {
	for _, c := range []struct {
		name, table string
		levels      int
		errno       api.Errno
	}{
		{"example 1", "1", 1, api.OK},
		{"example 1", "1101", 2, api.OK},
		{"example 1", "1001", 0, api.ErrLattice},
		{"example 1", "1111", 0, api.ErrOrder},
		{"example 1", "0111", 0, api.ErrOrder},
		{"example 1", "111", 0, api.ErrTable},
		{"example 1", diamond, 4, api.OK},
		{"example 2", "111010001", 0, api.ErrLattice},
		{"no bottom", "101011001", 0, api.ErrLattice},
		{"five levels", pentagon, 5, api.OK},
		{"six in a row", chain6, 6, api.OK},
		{"four side by side", broad6, 6, api.OK},
		{"two bounds, none the lowest", crossed, 0, api.ErrLattice},
		{"six apart", "100000010000001000000100000010000001", 0, api.ErrLattice},
		{"not below itself", "0", 0, api.ErrOrder},
		{"the last not below itself", "1110", 0, api.ErrOrder},
		{"each below the other", "110110001", 0, api.ErrOrder},
		{"one behind another is missing", "110011001", 0, api.ErrOrder},
		{"a ring", "110011101", 0, api.ErrOrder},
		{"empty", "", 0, api.ErrTable},
		{"another byte", "2", 0, api.ErrTable},
		{"the byte 1", "\x01", 0, api.ErrTable},
		{"the byte ahead of 0", "/", 0, api.ErrTable},
		{"another byte and no order", "0112", 0, api.ErrTable},
		{"another byte and no lattice", "100\xff", 0, api.ErrTable},
		{"another byte at the end", chain6[:35] + "\x00", 0, api.ErrTable},
	} {
		levels, errno := sluice.Levels(c.table)
		if levels != c.levels || errno != c.errno {
			t.Errorf("P3: %s: Levels(%q) = %d, %d, want %d, %d", c.name, c.table, levels, errno, c.levels, c.errno)
		}
	}
}

// Zeros alone are no order where their length is that of a table.
func TestP3LengthOfATable(t *testing.T) {
	squares := map[int]bool{1: true, 4: true, 9: true, 16: true, 25: true, 36: true}
	for length := 0; length <= 150; length++ {
		want := api.ErrTable
		if squares[length] {
			want = api.ErrOrder
		}
		text := strings.Repeat("0", length)
		if levels, errno := sluice.Levels(text); levels != 0 || errno != want {
			t.Errorf("P3: Levels of %d bytes = %d, %d, want 0, %d", length, levels, errno, want)
		}
	}
}

func TestP3EveryByteOfATable(t *testing.T) {
	for at := 0; at < len(diamond); at++ {
		for value := 0; value < 256; value++ {
			text := diamond[:at] + string([]byte{byte(value)}) + diamond[at+1:]
			levels, errno := sluice.Levels(text)
			bit := value == '0' || value == '1'
			if bit == (errno == api.ErrTable) || (errno != api.OK && levels != 0) {
				t.Errorf("P3: Levels(%q) = %d, %d", text, levels, errno)
			}
		}
	}
}

func TestP3JoinAndMeet(t *testing.T) {
	for _, c := range []struct {
		table            string
		a, b, join, meet int
	}{
		{"1", 0, 0, 0, 0},
		{pair, 0, 0, 0, 0}, {pair, 0, 1, 1, 0}, {pair, 1, 0, 1, 0}, {pair, 1, 1, 1, 1},
		{"1011", 0, 1, 0, 1}, {"1011", 1, 0, 0, 1},
		{diamond, 1, 2, 3, 0}, {diamond, 2, 1, 3, 0}, {diamond, 1, 3, 3, 1}, {diamond, 0, 2, 2, 0}, {diamond, 0, 3, 3, 0},
		{pentagon, 1, 3, 4, 0}, {pentagon, 2, 3, 4, 0}, {pentagon, 1, 2, 2, 1}, {pentagon, 3, 3, 3, 3},
		{chain6, 2, 5, 5, 2}, {chain6, 4, 3, 4, 3}, {chain6, 0, 5, 5, 0},
		{broad6, 1, 4, 5, 0}, {broad6, 3, 2, 5, 0}, {broad6, 4, 5, 5, 4},
	} {
		if join, errno := sluice.Join(c.table, c.a, c.b); join != c.join || errno != api.OK {
			t.Errorf("P3: Join(%q, %d, %d) = %d, %d, want %d", c.table, c.a, c.b, join, errno, c.join)
		}
		if meet, errno := sluice.Meet(c.table, c.a, c.b); meet != c.meet || errno != api.OK {
			t.Errorf("P3: Meet(%q, %d, %d) = %d, %d, want %d", c.table, c.a, c.b, meet, errno, c.meet)
		}
	}
}

func TestP3JoinAndMeetErrors(t *testing.T) {
	for _, c := range []struct {
		table string
		a, b  int
		errno api.Errno
	}{
		{pair, 2, 0, api.ErrNumber}, {pair, 0, 2, api.ErrNumber}, {pair, 2, 2, api.ErrNumber},
		{pair, -1, 1, api.ErrNumber}, {pair, 1, -1, api.ErrNumber}, {"1", 1, 1, api.ErrNumber},
		{chain6, 6, 5, api.ErrNumber}, {chain6, 5, 6, api.ErrNumber},
		{diamond, 256, 1, api.ErrNumber}, {diamond, 1, 1 << 32, api.ErrNumber},
		{diamond, -1 << 63, 1, api.ErrNumber}, {diamond, 1, 1<<63 - 1, api.ErrNumber}, {diamond, 1 << 62, 1, api.ErrNumber},
		{"", 0, 0, api.ErrTable}, {"11", 9, 9, api.ErrTable}, {"1x01", -1, 0, api.ErrTable},
		{"1111", 0, 1, api.ErrOrder}, {"1111", 9, 0, api.ErrOrder},
		{"1001", 0, 0, api.ErrLattice}, {"1001", 0, 9, api.ErrLattice}, {crossed, 0, 1, api.ErrLattice}, {crossed, 4, 5, api.ErrLattice},
	} {
		if join, errno := sluice.Join(c.table, c.a, c.b); join != 0 || errno != c.errno {
			t.Errorf("P3: Join(%q, %d, %d) = %d, %d, want 0, %d", c.table, c.a, c.b, join, errno, c.errno)
		}
		if meet, errno := sluice.Meet(c.table, c.a, c.b); meet != 0 || errno != c.errno {
			t.Errorf("P3: Meet(%q, %d, %d) = %d, %d, want 0, %d", c.table, c.a, c.b, meet, errno, c.errno)
		}
	}
}
