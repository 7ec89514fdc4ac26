package sluice_test

import (
	"bytes"
	"strings"
	"testing"

	"sluice/api"
	"sluice/sluice"
)

// fileOf lays a file together; the code is given as operation and operand in turn.
func fileOf(table string, vars string, code ...byte) string {
	side := 1
	for side*side < len(table) {
		side++
	}
	text := "S" + string([]byte{byte(side)}) + table
	text += string([]byte{byte(len(vars))}) + vars
	return text + string([]byte{byte(len(code) / 2)}) + string(code)
}

func checkScan(t *testing.T, name string, file string, want api.Info, wantErrno api.Errno) {
	t.Helper()
	if info, errno := sluice.Scan(file); info != want || errno != wantErrno {
		t.Errorf("P4: %s: Scan(%.60q) = %+v, %d, want %+v, %d", name, file, info, errno, want, wantErrno)
	}
}

func TestP4Files(t *testing.T) {
	largest := fileOf(chain6, "\x00\x01\x02\x03\x04\x05\x00\x05", bytes.Repeat([]byte{api.Jump, 200}, 200)...)
	if len(largest) != api.MaxFile {
		t.Fatalf("the largest file has %d bytes", len(largest))
	}
	for _, c := range []struct {
		name, file string
		want       api.Info
	}{
		{"example 3", "\x53\x01\x31\x00\x00", api.Info{Levels: 1}},
		{"example 4", fileOf(pair, "", 10, 0, 11, 1), api.Info{Levels: 2, Code: 2}},
		{"variables", fileOf(diamond, "\x03\x00\x02"), api.Info{Levels: 4, Vars: 3}},
		{"all operations", fileOf(pair, "\x01", 0, 255, 1, 0, 2, 0, 3, 0, 4, 0, 5, 0, 6, 0, 7, 0, 8, 12, 9, 0, 10, 1, 11, 0), api.Info{Levels: 2, Vars: 1, Code: 12}},
		{"the largest", largest, api.Info{Levels: 6, Vars: 8, Code: 200}},
	} {
		checkScan(t, c.name, c.file, c.want, api.OK)
	}
}

func TestP4NoFiles(t *testing.T) {
	jumps := bytes.Repeat([]byte{api.Jump, 0}, 201)
	for _, c := range []struct {
		name, file string
		errno      api.Errno
	}{
		{"one byte too long", fileOf(chain6, "\x00\x00\x00\x00\x00\x00\x00\x00", jumps[:400]...) + "\x00", api.ErrLong},
		{"long and no file", strings.Repeat("x", 449), api.ErrLong},
		{"as long as may be", strings.Repeat("x", 448), api.ErrFile},
		{"another first byte", "s\x011\x00\x00", api.ErrFile},
		{"no level", "S\x00\x00\x00", api.ErrFile},
		{"seven levels", "S\x07" + strings.Repeat("1", 49) + "\x00\x00", api.ErrFile},
		{"n as a digit", "S11\x00\x00", api.ErrFile},
		{"255 levels", "S\xff" + strings.Repeat("1", 400), api.ErrFile},
		{"bits that are no digits", "S\x01\x01\x00\x00", api.ErrFile},
		{"nine variables", fileOf("1", strings.Repeat("\x00", 9)), api.ErrFile},
		{"a variable's level is n", fileOf(pair, "\x01\x00\x02"), api.ErrFile},
		{"a variable's level is 255", fileOf(chain6, "\xff"), api.ErrFile},
		{"201 instructions", fileOf("1", "", jumps...), api.ErrFile},
		{"no order and a byte too many", fileOf("1111", "") + "\x00", api.ErrFile},
		{"no lattice and a variable's level is n", fileOf("1001", "\x02"), api.ErrFile},
		{"no instruction and a byte too few", "S\x011\x00\x02\x0c\x00\x0c", api.ErrFile},
		{"no order and no code", fileOf("1111", "", 12, 0), api.ErrOrder},
		{"no lattice and no code", fileOf("1001", "", 12, 0), api.ErrLattice},
		{"not below itself", fileOf("0", ""), api.ErrOrder},
		{"no lattice", fileOf("111010001", "\x00"), api.ErrLattice},
	} {
		checkScan(t, c.name, c.file, api.Info{}, c.errno)
	}
}

// Every operation with every operand, as the first and as the last of three instructions.
func TestP4Operands(t *testing.T) {
	const levels, vars, length = 2, 3, 3
	bound := [256]int{api.Push: 256, api.Load: vars, api.Store: vars,
		api.Add: 1, api.Sub: 1, api.Mul: 1, api.Less: 1, api.Same: 1,
		api.Jump: length + 1, api.Zero: length + 1, api.In: levels, api.Out: levels}
	good := api.Info{Levels: levels, Vars: vars, Code: length}
	for operation := 0; operation < 256; operation++ {
		for operand := 0; operand < 256; operand++ {
			want := api.Info{}
			errno := api.ErrCode
			if operand < bound[operation] {
				want = good
				errno = api.OK
			}
			first := fileOf(pair, "\x00\x01\x01", byte(operation), byte(operand), api.Push, 7, api.Jump, 0)
			last := fileOf(pair, "\x00\x01\x01", api.Push, 7, api.Jump, 0, byte(operation), byte(operand))
			checkScan(t, "first", first, want, errno)
			checkScan(t, "last", last, want, errno)
		}
	}
}

// Where there is nothing of what an operand may name, none is right.
func TestP4OperandsOfNothing(t *testing.T) {
	for operand := 0; operand < 256; operand++ {
		checkScan(t, "LOAD of no variable", fileOf("1", "", api.Load, byte(operand)), api.Info{}, api.ErrCode)
		checkScan(t, "STORE of no variable", fileOf("1", "", api.Store, byte(operand)), api.Info{}, api.ErrCode)
	}
	full := bytes.Repeat([]byte{api.Push, 0}, 200)
	full[0] = api.Jump
	full[1] = 200
	checkScan(t, "the end of 200", fileOf("1", "", full...), api.Info{Levels: 1, Code: 200}, api.OK)
	full[1] = 201
	checkScan(t, "behind the end of 200", fileOf("1", "", full...), api.Info{}, api.ErrCode)
}

// No beginning of a file is a file, and none with something behind it.
func TestP4Ends(t *testing.T) {
	for _, file := range []string{
		fileOf("1", ""),
		fileOf(pair, "\x00\x01", 0, 1, 2, 0),
		fileOf(chain6, "\x05", bytes.Repeat([]byte{api.Jump, 0}, 200)...),
	} {
		if _, errno := sluice.Scan(file); errno != api.OK {
			t.Fatalf("P4: Scan(%.60q) is %d", file, errno)
		}
		for length := 0; length < len(file); length++ {
			checkScan(t, "early", file[:length], api.Info{}, api.ErrFile)
		}
		for value := 0; value < 256; value++ {
			checkScan(t, "late", file+string([]byte{byte(value)}), api.Info{}, api.ErrFile)
		}
	}
}

// Each byte of a file in turn is every other byte: what comes of it is told part by part.
func TestP4EveryByte(t *testing.T) {
	file := fileOf(pair, "\x00\x01", 0, 1, 2, 0)
	info := api.Info{Levels: 2, Vars: 2, Code: 2}
	for at := 0; at < len(file); at++ {
		for value := 0; value < 256; value++ {
			if byte(value) == file[at] {
				continue
			}
			changed := file[:at] + string([]byte{byte(value)}) + file[at+1:]
			want, errno := afterChange(info, at, value)
			checkScan(t, "changed", changed, want, errno)
		}
	}
}

// afterChange knows the file of TestP4EveryByte: S 2 1101 2 0 1 2, PUSH 1, STORE 0.
func afterChange(info api.Info, at int, value int) (api.Info, api.Errno) {
	bit := value == '0' || value == '1'
	switch {
	case at <= 1, at >= 2 && at <= 5 && !bit, at == 6, at == 9:
		return api.Info{}, api.ErrFile
	case at == 2, at == 4, at == 5:
		return api.Info{}, api.ErrOrder
	case at == 3:
		return api.Info{}, api.ErrLattice
	case at <= 8 && value < 2:
		return info, api.OK
	case at <= 8:
		return api.Info{}, api.ErrFile
	case at == 10 && (value == api.Load || value == api.Store || value == api.Jump || value == api.Zero || value == api.In || value == api.Out):
		return info, api.OK
	case at == 11:
		return info, api.OK
	case at == 12 && value <= api.Out:
		return info, api.OK
	case at == 13 && value < 2:
		return info, api.OK
	}
	return api.Info{}, api.ErrCode
}
