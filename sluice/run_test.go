package sluice_test

import (
	"fmt"
	"strings"
	"testing"
	"time"

	"sluice/api"
	"sluice/sluice"
)

func checkRun(t *testing.T, name string, file string, tapes api.Tapes, fuel int, want api.Result) {
	t.Helper()
	if result, errno := sluice.Run(file, tapes, fuel); result != want || errno != api.OK {
		t.Errorf("P6: %s: Run(%.99q, %.99q, %d) = %+v, %d, want %+v", name, file, tapes, fuel, result, errno, want)
	}
}

// checkNoRun holds Run to an error and to nothing beside it.
func checkNoRun(t *testing.T, name string, file string, fuel int, want api.Errno) {
	t.Helper()
	result, errno := sluice.Run(file, api.Tapes{"abc", "abc", "abc", "abc", "abc", "abc"}, fuel)
	if errno != want || result != (api.Result{}) {
		t.Errorf("P6: %s: Run(%.99q, .., %d) = %+v, %d, want %d", name, file, fuel, result, errno, want)
	}
}

// ended is the result of a run that came to the end.
func ended(steps int, vars string, logs ...string) api.Result {
	result := api.Result{End: 1, Steps: steps, Vars: vars}
	copy(result.Logs[:], logs)
	return result
}

// spent is the result of a run whose fuel was spent ahead of the end.
func spent(steps int, vars string, logs ...string) api.Result {
	result := ended(steps, vars, logs...)
	result.End = 2
	return result
}

func TestP6Examples(t *testing.T) {
	checkRun(t, "example 3", "\x53\x01\x31\x00\x00", api.Tapes{}, 0, ended(0, ""))
	upward := fileOf(pair, "", in, 0, out, 1)
	checkRun(t, "example 5", upward, api.Tapes{"x"}, 5, ended(2, "", "", "x"))
	checkRun(t, "example 5, fuel 1", upward, api.Tapes{"x"}, 1, spent(1, ""))
	checkRun(t, "example 5, no tape", upward, api.Tapes{}, 5, ended(2, "", "", "\x00"))
	ring := fileOf(pair, "", in, 1, zero, 3, jump, 0, push, 7, out, 0)
	checkRun(t, "example 9, no tape", ring, api.Tapes{}, 4, ended(4, "", "\x07"))
	checkRun(t, "example 9, a secret tape", ring, api.Tapes{"", "\x01\xff\x00\x01"}, 99, ended(10, "", "\x07"))
	checkRun(t, "example 9, spent", ring, api.Tapes{"", "\x01\xff\x00\x01"}, 9, spent(9, ""))
}

// All pairs of values, many in one run: the operands and a 1 by which it goes on
// come from the tape.
func TestP6ReckoningOfAllPairs(t *testing.T) {
	wants := []func(a, b int) int{
		func(a, b int) int { return a + b },
		func(a, b int) int { return a - b },
		func(a, b int) int { return a * b },
		func(a, b int) int {
			if a < b {
				return 1
			}
			return 0
		},
		func(a, b int) int {
			if a == b {
				return 1
			}
			return 0
		},
	}
	for i, want := range wants {
		operation := byte(add + i)
		file := fileOf("1", "", in, 0, in, 0, operation, 0, out, 0, in, 0, zero, 7, jump, 0)
		for first := 0; first < 256; first += 8 {
			tape, log := []byte{}, []byte{}
			for pairs := 0; pairs < 8*256; pairs++ {
				a, b := first+pairs/256, pairs%256
				tape = append(tape, byte(a), byte(b), 1)
				log = append(log, byte(want(a, b)))
			}
			tape[len(tape)-1] = 0
			checkRun(t, fmt.Sprintf("operation %d from %d on", operation, first), file, api.Tapes{string(tape)}, 20000, ended(7*2048-1, "", string(log)))
		}
	}
}

// What is beyond 0 to 255 is brought back at once, not only where it is written.
func TestP6ValuesComeBackAtOnce(t *testing.T) {
	for _, c := range []struct{ operation, a, b, value byte }{
		{add, 255, 1, 0}, {add, 128, 128, 0}, {add, 255, 255, 254}, {add, 200, 57, 1}, {add, 255, 0, 255},
		{sub, 0, 1, 255}, {sub, 0, 255, 1}, {sub, 5, 5, 0}, {sub, 255, 255, 0}, {sub, 255, 0, 255},
		{mul, 16, 16, 0}, {mul, 255, 255, 1}, {mul, 128, 2, 0}, {mul, 128, 3, 128}, {mul, 255, 0, 0},
	} {
		begin := []byte{push, c.a, push, c.b, c.operation, 0}
		asks := append(begin[:len(begin):len(begin)], push, c.value, same, 0, out, 0)
		checkRun(t, "SAME", fileOf("1", "", asks...), api.Tapes{}, 99, ended(6, "", "\x01"))
		asks = append(begin[:len(begin):len(begin)], push, c.value, less, 0, out, 0)
		checkRun(t, "not LESS", fileOf("1", "", asks...), api.Tapes{}, 99, ended(6, "", "\x00"))
		asks = append([]byte{push, c.value}, append(begin, less, 0, out, 0)...)
		checkRun(t, "not LESS than it", fileOf("1", "", asks...), api.Tapes{}, 99, ended(6, "", "\x00"))
		asks = append(begin[:len(begin):len(begin)], zero, 6, push, 9, out, 0)
		want := ended(6, "", "\x09")
		if c.value == 0 {
			want = ended(4, "")
		}
		checkRun(t, "ZERO", fileOf("1", "", asks...), api.Tapes{}, 99, want)
		asks = append(begin[:len(begin):len(begin)], store, 0, load, 0, push, c.value, same, 0, out, 0)
		checkRun(t, "STORE", fileOf("1", "\x00", asks...), api.Tapes{}, 99, ended(8, string([]byte{c.value}), "\x01"))
	}
}

func TestP6PushAndOutOfAllValues(t *testing.T) {
	for value := 0; value < 256; value++ {
		file := fileOf("1", "", push, byte(value), out, 0)
		checkRun(t, "PUSH", file, api.Tapes{"x"}, 9, ended(2, "", string([]byte{byte(value)})))
	}
}

func TestP6Variables(t *testing.T) {
	all := "\x00\x01\x00\x01\x00\x01\x00\x01"
	code, again := []byte{}, []byte{}
	for variable := byte(0); variable < 8; variable++ {
		code = append(code, push, 255-variable, store, variable)
		again = append(again, load, 7-variable, out, 1)
	}
	held := "\xff\xfe\xfd\xfc\xfb\xfa\xf9\xf8"
	checkRun(t, "all stored", fileOf(pair, all, code...), api.Tapes{}, 99, ended(16, held))
	checkRun(t, "all stored and loaded", fileOf(pair, all, append(code, again...)...), api.Tapes{}, 99, ended(32, held, "", "\xf8\xf9\xfa\xfb\xfc\xfd\xfe\xff"))
	checkRun(t, "all loaded", fileOf(pair, all, again...), api.Tapes{}, 99, ended(16, strings.Repeat("\x00", 8), "", strings.Repeat("\x00", 8)))
	checkRun(t, "no instruction", fileOf(pair, all), api.Tapes{"x", "y"}, 99, ended(0, strings.Repeat("\x00", 8)))
	checkRun(t, "stored twice", fileOf("1", "\x00", push, 7, store, 0, push, 0, store, 0), api.Tapes{}, 99, ended(4, "\x00"))
	checkRun(t, "a LOAD leaves it", fileOf("1", "\x00", push, 7, store, 0, load, 0, out, 0, load, 0, out, 0), api.Tapes{}, 99, ended(6, "\x07", "\x07\x07"))
	checkRun(t, "the last of three", fileOf("1", "\x00\x00\x00", push, 9, store, 2), api.Tapes{}, 99, ended(2, "\x00\x00\x09"))
	checkRun(t, "a sum of its own", fileOf("1", "\x00", in, 0, store, 0, load, 0, load, 0, add, 0, store, 0), api.Tapes{"\x81"}, 99, ended(6, "\x02"))
}

func TestP6Stack(t *testing.T) {
	code := []byte{}
	for value := byte(1); value <= 8; value++ {
		code = append(code, push, value)
	}
	code = append(code, repeat(8, out, 0)...)
	checkRun(t, "eight values", fileOf("1", "", code...), api.Tapes{}, 99, ended(16, "", "\x08\x07\x06\x05\x04\x03\x02\x01"))
	nested := append(repeat(8, in, 0), repeat(7, sub, 0)...)
	// 8 - (7 - (6 - (5 - (4 - (3 - (2 - 1))))))
	checkRun(t, "to the right", fileOf("1", "", append(nested, out, 0)...), api.Tapes{"\x08\x07\x06\x05\x04\x03\x02\x01"}, 99, ended(16, "", "\x04"))
	checkRun(t, "to the left", fileOf("1", "", in, 0, in, 0, sub, 0, in, 0, sub, 0, out, 0), api.Tapes{"\x0a\x03\x02"}, 99, ended(6, "", "\x05"))
	checkRun(t, "what lies beneath", fileOf("1", "", push, 9, in, 0, zero, 3, out, 0), api.Tapes{"\x01"}, 99, ended(4, "", "\x09"))
}

func TestP6Choices(t *testing.T) {
	choice := fileOf("1", "", in, 0, zero, 5, push, 'n', out, 0, jump, 7, push, 'z', out, 0)
	for value := 0; value < 256; value++ {
		want := ended(5, "", "n")
		if value == 0 {
			want = ended(4, "", "z")
		}
		checkRun(t, "ZERO", choice, api.Tapes{string([]byte{byte(value)})}, 99, want)
	}
	checkRun(t, "ZERO to the next place", fileOf("1", "", in, 0, zero, 2), api.Tapes{"\x00"}, 99, ended(2, ""))
	checkRun(t, "ZERO to the next place, not 0", fileOf("1", "", in, 0, zero, 2), api.Tapes{"\x05"}, 99, ended(2, ""))
	checkRun(t, "ZERO to the end", fileOf("1", "", in, 0, zero, 4, push, 1, out, 0), api.Tapes{"\x00"}, 99, ended(2, ""))
	checkRun(t, "ZERO back", fileOf("1", "", in, 0, zero, 0), api.Tapes{"\x00\x00\x00\x09"}, 99, ended(8, ""))
	checkRun(t, "ZERO back, above a value", fileOf("1", "", in, 0, in, 0, zero, 1, out, 0), api.Tapes{"\x07\x00\x00\x05"}, 99, ended(8, "", "\x07"))
	checkRun(t, "JUMP to the end", fileOf("1", "", jump, 3, push, 1, out, 0), api.Tapes{}, 99, ended(1, ""))
	checkRun(t, "JUMP to the next place", fileOf("1", "", jump, 1), api.Tapes{}, 99, ended(1, ""))
	checkRun(t, "JUMP forth and back", fileOf("1", "", jump, 4, push, 2, out, 0, jump, 7, push, 1, out, 0, jump, 1), api.Tapes{}, 99, ended(7, "", "\x01\x02"))
	checkRun(t, "what is not live", fileOf(pair, "", jump, 4, add, 0, in, 1, out, 0, push, 3, out, 1), api.Tapes{}, 99, ended(3, "", "", "\x03"))
	checkRun(t, "a value that lies through a choice", fileOf("1", "", push, 5, in, 0, zero, 4, jump, 4, out, 0), api.Tapes{"\x01"}, 99, ended(5, "", "\x05"))
}

func TestP6Tapes(t *testing.T) {
	all := make([]byte, 256)
	for value := range all {
		all[value] = byte(255 - value)
	}
	loop := fileOf("1", "", in, 0, out, 0, in, 0, zero, 0)
	checkRun(t, "pairs up to one that is not 0", loop, api.Tapes{"a\x00b\x00c\x01d"}, 99, ended(12, "", "abc"))
	for value := range all {
		tape := string(all[value:])
		checkRun(t, "IN", fileOf("1", "", in, 0, out, 0), api.Tapes{tape}, 99, ended(2, "", tape[:1]))
	}
	three := fileOf("1", "", in, 0, out, 0, in, 0, out, 0, in, 0, out, 0)
	checkRun(t, "more than is read", three, api.Tapes{"abcd"}, 99, ended(6, "", "abc"))
	checkRun(t, "just what is read", three, api.Tapes{"abc"}, 99, ended(6, "", "abc"))
	checkRun(t, "nothing left at the third", three, api.Tapes{"ab"}, 99, ended(6, "", "ab\x00"))
	checkRun(t, "nothing left at the second", three, api.Tapes{"a"}, 99, ended(6, "", "a\x00\x00"))
	checkRun(t, "nothing at all", three, api.Tapes{}, 99, ended(6, "", "\x00\x00\x00"))
	both := fileOf(pair, "", in, 0, out, 0, in, 1, out, 1, in, 0, out, 1, in, 1, out, 1)
	checkRun(t, "each tape goes on by itself", both, api.Tapes{"ab", "xy"}, 99, ended(8, "", "a", "xby"))
	checkRun(t, "one tape is short", both, api.Tapes{"ab", "x"}, 99, ended(8, "", "a", "xb\x00"))
}

func TestP6LevelsOfTapesAndLogs(t *testing.T) {
	tapes := api.Tapes{"0", "1", "2", "3", "4", "5"}
	checkRun(t, "tapes of levels that there are not", fileOf("1", "", in, 0, out, 0), tapes, 9, ended(2, "", "0"))
	checkRun(t, "the same, of two levels", fileOf(pair, "", in, 1, out, 1, in, 1, out, 1), tapes, 9, ended(4, "", "", "1\x00"))
	code := []byte{}
	for level := byte(0); level < 6; level++ {
		code = append(code, in, level, out, level)
	}
	checkRun(t, "six levels", fileOf(chain6, "", code...), tapes, 99, ended(12, "", "0", "1", "2", "3", "4", "5"))
	up := []byte{}
	for level := byte(0); level < 6; level++ {
		up = append(up, in, level, out, 5)
	}
	checkRun(t, "all to the highest", fileOf(chain6, "", up...), tapes, 99, ended(12, "", "", "", "", "", "", "012345"))
	short := fileOf(pair, "\x00\x01", in, 0, store, 0, in, 1, store, 1)
	first, _ := sluice.Run(short, api.Tapes{"a", "b"}, 99)
	second, _ := sluice.Run(short, api.Tapes{"a", "b", strings.Repeat("c", 1<<20), "d", "e", "f"}, 99)
	if first != second || first != ended(4, "ab") {
		t.Errorf("P6: %+v, %+v", first, second)
	}
}

// Each run with less fuel is the beginning of the whole one.
func TestP6Fuel(t *testing.T) {
	file := fileOf(pair, "\x00\x01", in, 0, store, 0, load, 0, out, 1, in, 1, store, 1, load, 1, out, 1)
	tapes := api.Tapes{"a", "b"}
	wants := []api.Result{
		spent(0, "\x00\x00"), spent(1, "\x00\x00"), spent(2, "a\x00"), spent(3, "a\x00"), spent(4, "a\x00", "", "a"),
		spent(5, "a\x00", "", "a"), spent(6, "ab", "", "a"), spent(7, "ab", "", "a"), ended(8, "ab", "", "ab"),
		ended(8, "ab", "", "ab"), ended(8, "ab", "", "ab"),
	}
	for fuel, want := range wants {
		checkRun(t, "each fuel", file, tapes, fuel, want)
	}
	checkRun(t, "the most fuel", file, tapes, 20000, ended(8, "ab", "", "ab"))
	checkRun(t, "no fuel, no instruction", fileOf(pair, ""), tapes, 0, ended(0, ""))
	checkRun(t, "the most fuel, no instruction", fileOf(pair, ""), tapes, 20000, ended(0, ""))
	checkRun(t, "no fuel, one instruction", fileOf(pair, "", jump, 1), tapes, 0, spent(0, ""))
	checkRun(t, "one fuel, one instruction", fileOf(pair, "", jump, 1), tapes, 1, ended(1, ""))
	straight := repeat(100, push, 9, out, 0)
	checkRun(t, "200 instructions", fileOf("1", "", straight...), tapes, 200, ended(200, "", strings.Repeat("\x09", 100)))
	checkRun(t, "200 instructions, one too little", fileOf("1", "", straight...), tapes, 199, spent(199, "", strings.Repeat("\x09", 99)))
}

// Loops of as many steps as fuel may be, one more and one fewer.
func TestP6MostFuel(t *testing.T) {
	// Three steps for each value that is not 0, two for the 0 behind them.
	loop := fileOf("1", "", in, 0, zero, 3, jump, 0)
	tape := strings.Repeat("x", 6666)
	checkRun(t, "just enough", loop, api.Tapes{tape}, 20000, ended(20000, ""))
	checkRun(t, "one too little", loop, api.Tapes{tape}, 19999, spent(19999, ""))
	checkRun(t, "never enough", loop, api.Tapes{tape + "x"}, 20000, spent(20000, ""))
	writes := fileOf(pair, "\x01", push, 5, out, 1, load, 0, push, 1, add, 0, store, 0, push, 1, zero, 9, jump, 0)
	checkRun(t, "a long log", writes, api.Tapes{}, 20000, spent(20000, string([]byte{byte(20000 / 9 % 256)}), "", strings.Repeat("\x05", 20000/9+1)))
	copies := fileOf("1", "", in, 0, out, 0, push, 1, zero, 5, jump, 0)
	long := strings.Repeat("\x00\x01\xff", 2000)
	checkRun(t, "a long copy", copies, api.Tapes{long}, 20000, spent(20000, "", long[:4000]))
}

func TestP6Errors(t *testing.T) {
	good := fileOf(pair, "\x00", in, 0, store, 0)
	for _, fuel := range []int{-1, 20001, 20002, 40000, 1 << 31, 1 << 32, 1<<63 - 1, -1 << 63, -20000} {
		checkNoRun(t, "the fuel", good, fuel, api.ErrNumber)
		checkNoRun(t, "the fuel, no instruction", fileOf("1", ""), fuel, api.ErrNumber)
	}
	for _, fuel := range []int{-1, 0, 5, 20000, 20001} {
		checkNoRun(t, "too long", strings.Repeat("S", 449), fuel, api.ErrLong)
		checkNoRun(t, "no file", "", fuel, api.ErrFile)
		checkNoRun(t, "a byte too many", good+"\x00", fuel, api.ErrFile)
		checkNoRun(t, "a byte too few", good[:len(good)-1], fuel, api.ErrFile)
		checkNoRun(t, "no order", fileOf("1111", "", in, 0, out, 0), fuel, api.ErrOrder)
		checkNoRun(t, "no lattice", fileOf("1001", "", in, 0, out, 0), fuel, api.ErrLattice)
		checkNoRun(t, "no operation", fileOf(pair, "", jump, 2, 12, 0), fuel, api.ErrCode)
		checkNoRun(t, "no variable", fileOf(pair, "", load, 0, out, 1), fuel, api.ErrCode)
		checkNoRun(t, "no tape", fileOf(pair, "", in, 2, out, 1), fuel, api.ErrCode)
		checkNoRun(t, "a ring", fileOf(pair, "", jump, 0), fuel, api.ErrLoop)
		checkNoRun(t, "a ring that this run would not come to", fileOf(pair, "", push, 0, zero, 3, jump, 2), fuel, api.ErrLoop)
		checkNoRun(t, "nothing to pop", fileOf(pair, "", out, 0), fuel, api.ErrStack)
		checkNoRun(t, "nine values", fileOf(pair, "", append(repeat(9, push, 1), repeat(9, out, 0)...)...), fuel, api.ErrStack)
		checkNoRun(t, "a value left", fileOf(pair, "", push, 1), fuel, api.ErrStack)
		checkNoRun(t, "a secret to the open log", fileOf(pair, "", in, 1, out, 0), fuel, api.ErrFlow)
		checkNoRun(t, "a secret to an open variable", fileOf(pair, "\x00", in, 1, store, 0), fuel, api.ErrFlow)
		checkNoRun(t, "the open tape read by a secret", fileOf(pair, "", in, 1, zero, 4, in, 0, out, 1), fuel, api.ErrFlow)
	}
}

// Run refuses just what Check refuses, with the same error.
func TestP6ErrorsOfCheck(t *testing.T) {
	for i, text := range append(randomTexts(5000), spoiledFiles(5000)...) {
		_, want := sluice.Check(text)
		fuel := numbers[i%len(numbers)]
		if want == api.OK && (fuel < 0 || fuel > 20000) {
			want = api.ErrNumber
		}
		if want != api.OK {
			checkNoRun(t, "as Check", text, fuel, want)
		} else if _, errno := sluice.Run(text, api.Tapes{"ab"}, fuel); errno != api.OK {
			t.Errorf("P6: Run(%.99q) is refused with %d", text, errno)
		}
	}
}

// A run that went through its tapes beyond what it reads would take far too long.
func TestP1LongTapes(t *testing.T) {
	tape := strings.Repeat("x", 1<<26)
	tapes := api.Tapes{tape, tape, tape, tape, tape, tape}
	file := fileOf(pair, "", in, 0, out, 1)
	start := time.Now()
	for i := 0; i < 20000; i++ {
		checkRun(t, "long tapes", file, tapes, 5, ended(2, "", "", "x"))
		if time.Since(start) > 20*time.Second {
			t.Fatalf("P1: %d rounds took 20 seconds", i)
		}
	}
}
