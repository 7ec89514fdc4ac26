package sluice_test

import (
	"math/rand"
	"strings"
	"testing"

	"sluice/api"
	"sluice/sluice"
)

// sees tells what two results give away to one who sees a level: "" if nothing, as P7 has it.
func (c code) sees(level int, one api.Result, other api.Result) string {
	both := one.End == 1 && other.End == 1
	for low := 0; low < c.levels(); low++ {
		a, b := one.Logs[low], other.Logs[low]
		if !c.below(low, level) {
			continue
		}
		if !strings.HasPrefix(a, b) && !strings.HasPrefix(b, a) {
			return "a log is not the beginning of the other"
		}
		if both && a != b {
			return "two ended runs with unequal logs"
		}
	}
	for variable, low := range []byte(c.vars) {
		if both && c.below(int(low), level) && one.Vars[variable] != other.Vars[variable] {
			return "two ended runs with unequal variables"
		}
	}
	return ""
}

// checkSecret runs a file with two rows of tapes and holds the results to P7.
func checkSecret(t *testing.T, c code, level int, tapes [2]api.Tapes, fuels [2]int) [2]api.Result {
	t.Helper()
	file := fileOf(c.table, c.vars, c.text...)
	one, errno := sluice.Run(file, tapes[0], fuels[0])
	other, errnoOther := sluice.Run(file, tapes[1], fuels[1])
	if errno != api.OK || errnoOther != api.OK {
		t.Errorf("P6: Run(%q) is refused: %d, %d", file, errno, errnoOther)
	} else if seen := c.sees(level, one, other); seen != "" {
		t.Errorf("P7: %s at level %d: %q, %q, %v: %+v, %+v", seen, level, file, tapes, fuels, one, other)
	}
	return [2]api.Result{one, other}
}

func TestP7SecretsOfTwoLevels(t *testing.T) {
	for _, c := range []struct {
		name string
		code code
	}{
		{"example 8", code{pair, "", []byte{in, 1, zero, 2, push, 7, out, 0}}},
		{"example 9", code{pair, "", []byte{in, 1, zero, 3, jump, 0, push, 7, out, 0}}},
		{"a secret choice, then the open log", code{pair, "", []byte{in, 1, zero, 4, push, 1, out, 1, push, 2, out, 0}}},
		{"two blocks", code{pair, "\x00\x01", []byte{in, 1, zero, 5, push, 1, store, 1, jump, 7, push, 2, store, 1, in, 0, store, 0}}},
		{"an open value beneath a secret choice", code{pair, "", []byte{in, 0, in, 1, zero, 5, push, 1, out, 1, out, 0}}},
		{"a secret loop between open writes", code{pair, "", []byte{in, 0, out, 0, in, 1, zero, 5, jump, 2, in, 0, out, 0}}},
		{"an open loop with secrets inside", code{pair, "\x00\x01", []byte{in, 0, zero, 8, in, 1, load, 1, add, 0, store, 1, load, 0, store, 0, push, 0, zero, 12, push, 3, out, 0, push, 4, out, 0}}},
		{"copies of both", code{pair, "\x00\x01", []byte{in, 0, store, 0, in, 1, store, 1, load, 0, out, 0, load, 1, out, 1, load, 0, out, 1}}},
	} {
		for fuel := 0; fuel <= 18; fuel++ {
			for other := 0; other <= 18; other++ {
				for _, secret := range []string{"", "\x00", "\x01", "\x00\x01", "\x01\x01\x00", "\xff\x80\x7f"} {
					tapes := [2]api.Tapes{{"\x05\x00\x06", "\x01\x00", "p"}, {"\x05\x00\x06", secret, "q"}}
					checkSecret(t, c.code, 0, tapes, [2]int{fuel, other})
				}
			}
		}
	}
}

// An observer's level of the diamond sees itself and the bottom, not its neighbour.
func TestP7NeighbourLevels(t *testing.T) {
	c := code{diamond, "\x00\x01\x02\x03", []byte{in, 1, store, 1, in, 2, store, 2, load, 1, out, 1, load, 2, out, 2, load, 1, load, 2, add, 0, out, 3, in, 0, store, 0, load, 0, out, 1}}
	same := api.Tapes{"a", "b", "c", "d"}
	for level := 0; level < 4; level++ {
		other := same
		for high := 0; high < 4; high++ {
			if !c.below(high, level) {
				other[high] = "z"
			}
		}
		for fuel := 0; fuel <= 20; fuel++ {
			checkSecret(t, c, level, [2]api.Tapes{same, other}, [2]int{fuel, 20})
			checkSecret(t, c, level, [2]api.Tapes{same, other}, [2]int{20, fuel})
		}
	}
	differ, _ := sluice.Run(fileOf(c.table, c.vars, c.text...), api.Tapes{"a", "b", "z", "d"}, 99)
	if differ != ended(16, "abz\x00", "", "ba", "z", "\xdc") {
		t.Errorf("P6: %+v", differ)
	}
}

func randomTape(source *rand.Rand) string {
	tape := make([]byte, source.Intn(12))
	for i := range tape {
		tape[i] = byte(source.Intn(2))
		if source.Intn(4) == 0 {
			tape[i] = byte(source.Intn(256))
		}
	}
	return string(tape)
}

// randomTapes draws two rows of tapes that are the same at or below a level.
func (c code) randomTapes(source *rand.Rand, level int) [2]api.Tapes {
	rows := [2]api.Tapes{}
	for low := range rows[0] {
		rows[0][low] = randomTape(source)
		rows[1][low] = rows[0][low]
		if low >= c.levels() || !c.below(low, level) {
			rows[1][low] = randomTape(source)
		}
	}
	return rows
}

// sound draws code that is let through: false, if it did not come to that.
func sound(source *rand.Rand, tables []string, length int) (code, bool) {
	c := randomCode(source, tables, length)
	for tries := 0; tries < 60; tries++ {
		at, errno := sluice.Check(fileOf(c.table, c.vars, c.text...))
		if errno != api.ErrFlow {
			return c, errno == api.OK
		}
		c.mend(source, at)
	}
	return c, false
}

func TestP6RandomFilesByWords(t *testing.T) {
	source := rand.New(rand.NewSource(11))
	ends := [3]int{}
	for round := 0; round < 6000; round++ {
		c, ok := sound(source, []string{"1", pair, "1011", diamond, chain6, broad6, pentagon}, 1+source.Intn(40))
		if !ok {
			continue
		}
		file := fileOf(c.table, c.vars, c.text...)
		for _, fuel := range []int{source.Intn(30), 400} {
			tapes := c.randomTapes(source, 0)[0]
			want := c.run(tapes, fuel)
			ends[want.End]++
			checkRun(t, "by words", file, tapes, fuel, want)
		}
	}
	if ends[1] < 2000 || ends[2] < 1000 {
		t.Errorf("only %d runs came to the end, and %d did not", ends[1], ends[2])
	}
}

// With equal and unequal fuel, at each level of the file.
func TestP7RandomFiles(t *testing.T) {
	source := rand.New(rand.NewSource(12))
	apart, both := 0, 0
	for round := 0; round < 6000; round++ {
		c, ok := sound(source, []string{pair, pair, "1011", diamond, chain6, broad6, pentagon}, 1+source.Intn(30))
		if !ok {
			continue
		}
		for level := 0; level < c.levels(); level++ {
			for _, fuels := range [][2]int{{300, 300}, {source.Intn(40), source.Intn(40)}, {source.Intn(40), 300}} {
				results := checkSecret(t, c, level, c.randomTapes(source, level), fuels)
				if results[0] != results[1] && fuels[0] == fuels[1] {
					apart++
				}
				if results[0].End == 1 && results[1].End == 1 {
					both++
				}
			}
		}
	}
	if apart < 1000 || both < 5000 {
		t.Errorf("only %d pairs of runs that differ, %d that both end", apart, both)
	}
}
