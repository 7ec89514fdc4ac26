package sluice_test

import (
	"bytes"
	"math/rand"
	"strings"
	"testing"
	"time"

	"sluice/api"
	"sluice/sluice"
)

// The operations under short names, so that code can be read.
const (
	push, load, store, add, sub, mul = api.Push, api.Load, api.Store, api.Add, api.Sub, api.Mul
	less, same, jump, zero, in, out  = api.Less, api.Same, api.Jump, api.Zero, api.In, api.Out
)

func checkCheck(t *testing.T, name string, file string, wantAt int, want api.Errno) {
	t.Helper()
	if at, errno := sluice.Check(file); at != wantAt || errno != want {
		t.Errorf("P5: %s: Check(%.99q) = %d, %d, want %d, %d", name, file, at, errno, wantAt, want)
	}
}

type checkCase struct {
	name, file string
	at         int
	errno      api.Errno
}

func checkAll(t *testing.T, cases []checkCase) {
	t.Helper()
	for _, c := range cases {
		checkCheck(t, c.name, c.file, c.at, c.errno)
	}
}

func repeat(count int, code ...byte) []byte { return bytes.Repeat(code, count) }

func TestP5Examples(t *testing.T) {
	checkAll(t, []checkCase{
		{"example 3", "\x53\x01\x31\x00\x00", 0, api.OK},
		{"example 4, upward", fileOf(pair, "", in, 0, out, 1), 0, api.OK},
		{"example 4, downward", fileOf(pair, "", in, 1, out, 0), 1, api.ErrFlow},
		{"example 6, JUMP 0", fileOf(pair, "", jump, 0), 0, api.ErrLoop},
		{"example 6, PUSH 5", fileOf(pair, "", push, 5), 0, api.ErrStack},
		{"example 6, ADD", fileOf(pair, "", add, 0), 0, api.ErrStack},
		{"example 7, low", fileOf(pair, "\x00", in, 1, zero, 4, push, 1, store, 0), 3, api.ErrFlow},
		{"example 7, high", fileOf(pair, "\x01", in, 1, zero, 4, push, 1, store, 0), 0, api.OK},
		{"example 8", fileOf(pair, "", in, 1, zero, 2, push, 7, out, 0), 0, api.OK},
		{"example 9", fileOf(pair, "", in, 1, zero, 3, jump, 0, push, 7, out, 0), 0, api.OK},
	})
}

func TestP5ErrorsOfScan(t *testing.T) {
	loop := []byte{jump, 0}
	checkAll(t, []checkCase{
		{"too long", strings.Repeat("S", 449), 0, api.ErrLong},
		{"empty", "", 0, api.ErrFile},
		{"nothing but an S", "S", 0, api.ErrFile},
		{"a byte too many", fileOf(pair, "", loop...) + "\x00", 0, api.ErrFile},
		{"a variable of no level", fileOf(pair, "\x02", loop...), 0, api.ErrFile},
		{"no order", fileOf("1111", "", loop...), 0, api.ErrOrder},
		{"no lattice", fileOf("1001", "", loop...), 0, api.ErrLattice},
		{"no operation", fileOf(pair, "", jump, 0, 12, 0), 0, api.ErrCode},
		{"no operation, not live", fileOf(pair, "", jump, 2, 12, 0), 0, api.ErrCode},
		{"no place", fileOf(pair, "", jump, 2), 0, api.ErrCode},
		{"no variable, not live", fileOf(pair, "", jump, 2, store, 0), 0, api.ErrCode},
		{"no tape", fileOf(pair, "", in, 2, out, 0), 0, api.ErrCode},
		{"an operand of ADD", fileOf(pair, "", push, 1, push, 1, add, 1, out, 0), 0, api.ErrCode},
	})
	for _, text := range append(randomTexts(3000), spoiledFiles(3000)...) {
		if _, errno := sluice.Scan(text); errno != api.OK {
			checkCheck(t, "as Scan", text, 0, errno)
		}
	}
}

func TestP5Loops(t *testing.T) {
	ways := append([]byte{jump, 1}, repeat(99, push, 1, zero, 200)...)
	checkAll(t, []checkCase{
		{"a ring of three", fileOf("1", "", jump, 2, jump, 0, jump, 1), 0, api.ErrLoop},
		{"into a ring", fileOf("1", "", push, 1, out, 0, jump, 2), 0, api.ErrLoop},
		{"a ring at the last place", fileOf("1", "", push, 1, zero, 3, jump, 2), 2, api.ErrLoop},
		{"two rings", fileOf("1", "", push, 1, zero, 5, push, 1, zero, 6, jump, 4, jump, 5), 4, api.ErrLoop},
		{"two rings, the one that comes later is lower", fileOf("1", "", push, 1, zero, 6, push, 1, zero, 5, jump, 7, jump, 5, jump, 6), 5, api.ErrLoop},
		{"the way in is above the ring's least place", fileOf("1", "", push, 1, zero, 5, jump, 6, push, 1, jump, 5, jump, 3), 3, api.ErrLoop},
		{"a ring of ZEROs", fileOf("1", "", push, 1, zero, 0, jump, 0), 0, api.ErrLoop},
		{"a ring with a way out", fileOf("1", "", push, 1, zero, 3, jump, 0), 0, api.OK},
		{"a way out by the next place", fileOf("1", "", push, 1, zero, 0), 0, api.OK},
		{"a ring that is not live", fileOf("1", "", jump, 3, jump, 1, jump, 1), 0, api.OK},
		{"a ring that is not live, and one that is", fileOf("1", "", push, 1, zero, 4, jump, 5, jump, 3, jump, 4), 4, api.ErrLoop},
		{"a way to the end from a place that is not live alone", fileOf("1", "", jump, 0, jump, 2), 0, api.ErrLoop},
		{"a JUMP to the end", fileOf("1", "", jump, 1), 0, api.OK},
		{"a JUMP to itself at the last of 200", fileOf("1", "", append(ways, jump, 199)...), 199, api.ErrLoop},
		{"a JUMP to the end at the last of 200", fileOf("1", "", append(ways, jump, 200)...), 0, api.OK},
		{"200 JUMPs to the end", fileOf("1", "", repeat(200, jump, 200)...), 0, api.OK},
	})
}

// Which error comes first.
func TestP5FirstError(t *testing.T) {
	checkAll(t, []checkCase{
		{"no heights ahead of a ring", fileOf(pair, "", add, 0, jump, 1), 0, api.ErrLoop},
		{"no heights, and a ring further on", fileOf(pair, "", in, 1, out, 0, add, 0, push, 1, zero, 6, jump, 5, push, 1), 5, api.ErrLoop},
		{"a ring that piles up", fileOf(pair, "", push, 1, jump, 0), 0, api.ErrLoop},
		{"a rule broken, then a ring", fileOf(pair, "", in, 1, out, 0, push, 1, zero, 5, jump, 4), 4, api.ErrLoop},
		{"a rule broken, then no heights", fileOf(pair, "", in, 1, out, 0, push, 1), 0, api.ErrStack},
		{"no heights, then a rule broken", fileOf(pair, "", add, 0, out, 0, in, 1, out, 0), 0, api.ErrStack},
	})
}

// Every operation with every height: what may stand there, and the heights behind.
func TestP5Heights(t *testing.T) {
	operands := []byte{1, 0, 0, 0, 0, 0, 0, 0, 0, 0, 1, 1}
	for operation := byte(push); operation <= out; operation++ {
		for height := 0; height <= 9; height++ {
			above := height - popsOf[operation] + pushesOf[operation]
			text := append(repeat(height, push, 1), operation, operands[operation])
			if operation == jump || operation == zero {
				text[2*height+1] = byte(height + 1)
			}
			want := api.OK
			if height < popsOf[operation] || height > 8 || above > 8 {
				want = api.ErrStack
			}
			good := append(text[:len(text):len(text)], repeat(max(above, 0), out, 1)...)
			checkCheck(t, "all taken", fileOf(pair, "\x01", good...), 0, want)
			more := append(text[:len(text):len(text)], repeat(max(above, 0)+1, out, 1)...)
			checkCheck(t, "one more taken", fileOf(pair, "\x01", more...), 0, api.ErrStack)
			if above > 0 {
				fewer := append(text[:len(text):len(text)], repeat(above-1, out, 1)...)
				checkCheck(t, "one left", fileOf(pair, "\x01", fewer...), 0, api.ErrStack)
			}
		}
	}
}

func TestP5HeightsOfBranches(t *testing.T) {
	deep := append(repeat(8, push, 1), zero, 10, jump, 10)
	checkAll(t, []checkCase{
		{"a choice between unequal heights", fileOf("1", "", in, 0, zero, 3, push, 7, push, 8, out, 0), 0, api.ErrStack},
		{"a choice between equal heights", fileOf("1", "", in, 0, zero, 4, push, 7, jump, 5, push, 8, out, 0), 0, api.OK},
		{"a choice to the end with something left", fileOf("1", "", push, 1, push, 1, zero, 4, out, 0), 0, api.ErrStack},
		{"a loop that piles up", fileOf("1", "", push, 1, in, 0, zero, 0, out, 0), 0, api.ErrStack},
		{"a loop that takes away", fileOf("1", "", push, 1, push, 1, out, 0, in, 0, zero, 2), 0, api.ErrStack},
		{"a loop over something", fileOf("1", "", push, 1, push, 2, out, 0, in, 0, zero, 1, out, 0), 0, api.OK},
		{"back to place 0 with something", fileOf("1", "", in, 0, push, 1, zero, 0, out, 0), 0, api.ErrStack},
		{"a ZERO at height 8", fileOf("1", "", append(deep, repeat(7, out, 0)...)...), 0, api.OK},
		{"what is not live has no height", fileOf("1", "", jump, 3, add, 0, push, 1), 0, api.OK},
		{"nor does it bind", fileOf("1", "", jump, 4, push, 1, push, 1, jump, 5, push, 1, out, 0), 0, api.OK},
		{"a ZERO that goes to itself", fileOf("1", "", push, 1, push, 1, zero, 2, out, 0), 0, api.ErrStack},
		{"a LOAD that is not live", fileOf("1", "\x00", jump, 2, load, 0), 0, api.OK},
	})
}

// Every instruction with a rule, for every pair of levels of a table: straight and under a choice.
func TestP5Rules(t *testing.T) {
	for _, table := range []string{"1", pair, "1011", diamond, pentagon, chain6, broad6} {
		c := code{table: table}
		for a := byte(0); int(a) < c.levels(); a++ {
			for b := byte(0); int(b) < c.levels(); b++ {
				want := api.ErrFlow
				if c.below(int(a), int(b)) {
					want = api.OK
				}
				at := func(place int) int {
					if want == api.OK {
						return 0
					}
					return place
				}
				levels := string([]byte{a, b})
				checkAll(t, []checkCase{
					{"IN, STORE", fileOf(table, levels, in, a, store, 1), at(1), want},
					{"IN, OUT", fileOf(table, levels, in, a, out, b), at(1), want},
					{"LOAD, STORE", fileOf(table, levels, load, 0, store, 1), at(1), want},
					{"LOAD, OUT", fileOf(table, levels, load, 0, out, b), at(1), want},
					{"STORE under a choice", fileOf(table, levels, push, 1, in, a, zero, 5, store, 1, jump, 6, store, 0), at(3), want},
					{"OUT under a choice", fileOf(table, levels, load, 0, zero, 4, push, 1, out, b), at(3), want},
					{"IN under a choice", fileOf(table, levels, in, a, zero, 4, in, b, out, b), at(2), want},
					{"OUT behind a choice", fileOf(table, levels, in, a, zero, 2, push, 1, out, b), 0, api.OK},
				})
			}
		}
	}
}

// Both values that an operation pops tell on what it pushes, and nothing else does.
func TestP5Operations(t *testing.T) {
	for operation := byte(add); operation <= same; operation++ {
		checkAll(t, []checkCase{
			{"of 1 and 2, to 3", fileOf(diamond, "", in, 1, in, 2, operation, 0, out, 3), 0, api.OK},
			{"of 1 and 2, to 2", fileOf(diamond, "", in, 1, in, 2, operation, 0, out, 2), 3, api.ErrFlow},
			{"of 1 and 2, to 1", fileOf(diamond, "", in, 1, in, 2, operation, 0, out, 1), 3, api.ErrFlow},
			{"of 1 and a number, to 1", fileOf(diamond, "", in, 1, push, 2, operation, 0, out, 1), 0, api.OK},
			{"of a number and 2, to 2", fileOf(diamond, "", push, 1, in, 2, operation, 0, out, 2), 0, api.OK},
			{"of numbers, over 3, to 0", fileOf(diamond, "", in, 3, push, 1, push, 2, operation, 0, out, 0, out, 3), 0, api.OK},
		})
	}
}

// A secret at each depth of a full stack: it is found there, and nowhere else.
func TestP5Depths(t *testing.T) {
	for depth := 0; depth < 8; depth++ {
		text := repeat(8, push, 1)
		text[2*depth] = in
		text[2*depth+1] = 1
		low := append(text[:len(text):len(text)], repeat(8, out, 0)...)
		checkCheck(t, "a secret on the stack", fileOf(pair, "", low...), 15-depth, api.ErrFlow)
		low[2*(15-depth)+1] = 1
		checkCheck(t, "a secret on the stack, let out", fileOf(pair, "", low...), 0, api.OK)
	}
}

func TestP5LeastPlace(t *testing.T) {
	checkAll(t, []checkCase{
		{"two in a row", fileOf(pair, "", in, 1, in, 1, out, 0, out, 0), 2, api.ErrFlow},
		{"the later is done first", fileOf(pair, "", jump, 4, in, 1, out, 0, jump, 7, in, 1, out, 0, jump, 1), 2, api.ErrFlow},
		{"the first is not live", fileOf(pair, "", jump, 3, in, 1, out, 0, in, 1, out, 0), 4, api.ErrFlow},
		{"an IN ahead of the ZERO, in a loop", fileOf(pair, "", in, 0, out, 1, in, 1, zero, 0), 0, api.ErrFlow},
		{"the last of 200", fileOf(pair, "", append(repeat(198, jump, 198), in, 1, out, 0)...), 199, api.ErrFlow},
	})
	text := repeat(198, jump, 0)
	for place := 0; place < 198; place++ {
		text[2*place+1] = byte(place + 1)
	}
	checkCheck(t, "behind 198 JUMPs", fileOf(pair, "", append(text, in, 1, out, 0)...), 199, api.ErrFlow)
}

// The last place that an instruction can have counts as any other.
func TestP5LastPlace(t *testing.T) {
	choice := append(repeat(194, jump, 194), push, 1, in, 1, zero, 199, out, 1, jump, 200)
	loop := append([]byte{push, 1, out, 0}, repeat(196, jump, 198)...)
	checkAll(t, []checkCase{
		{"in a region, with a low value", fileOf(pair, "", append(choice, out, 0)...), 199, api.ErrFlow},
		{"in a region, with a high log", fileOf(pair, "", append(choice, out, 1)...), 0, api.OK},
		{"a ZERO over all the rest", fileOf(pair, "", append(loop, in, 1, zero, 0)...), 1, api.ErrFlow},
		{"a ZERO over all the rest, of a low value", fileOf(pair, "", append(loop, in, 0, zero, 0)...), 0, api.OK},
	})
}

func TestP5NotLive(t *testing.T) {
	checkAll(t, []checkCase{
		{"rules", fileOf(pair, "\x00", jump, 5, in, 1, out, 0, in, 1, store, 0), 0, api.OK},
		{"a choice over live places", fileOf(pair, "", jump, 3, in, 1, zero, 5, push, 1, out, 0), 0, api.OK},
		{"a choice that never ends, over live places", fileOf(pair, "", jump, 3, in, 1, zero, 1, push, 1, out, 0), 0, api.OK},
		{"a secret laid on the stack", fileOf(pair, "", push, 1, jump, 3, in, 1, out, 0), 0, api.OK},
	})
}

func TestP5Regions(t *testing.T) {
	checkAll(t, []checkCase{
		{"a value beneath a loop that a secret ends", fileOf(pair, "", push, 1, in, 1, zero, 4, jump, 1, out, 0), 0, api.OK},
		{"the region of an IN that it reads again", fileOf(pair, "", in, 1, zero, 0, push, 1, out, 0), 0, api.OK},
		{"a value from within a loop that a secret ends", fileOf(pair, "", push, 1, out, 1, push, 1, in, 1, zero, 1, out, 0), 5, api.ErrFlow},
		{"a value from ahead of a loop that a secret ends", fileOf(pair, "", push, 1, in, 1, zero, 1, out, 0), 0, api.OK},
		{"a choice to the end: all that follows", fileOf(pair, "", in, 1, zero, 4, push, 1, out, 0), 3, api.ErrFlow},
		{"two ways to one log", fileOf(pair, "", in, 1, zero, 5, push, 1, out, 0, jump, 7, push, 1, out, 0), 3, api.ErrFlow},
		{"a choice within a choice's region counts on", fileOf(diamond, "", in, 1, zero, 6, in, 3, zero, 6, push, 1, out, 1), 5, api.ErrFlow},
		{"the outer choice counts within the inner", fileOf(diamond, "", in, 1, zero, 6, push, 1, zero, 6, push, 1, out, 2), 5, api.ErrFlow},
		{"the label of the place, though the value is low", fileOf(pair, "", in, 1, zero, 8, push, 0, zero, 8, push, 1, out, 0, push, 1, out, 1), 5, api.ErrFlow},
		{"the inner region alone", fileOf(diamond, "", in, 1, zero, 8, in, 3, zero, 6, push, 1, out, 3, push, 1, out, 1), 0, api.OK},
		{"into the middle of a loop", fileOf(pair, "", in, 1, zero, 4, push, 1, out, 1, push, 1, zero, 2, push, 1, out, 0), 0, api.OK},
		{"into the middle of a loop that reads", fileOf(pair, "", in, 1, zero, 4, in, 0, out, 1, push, 1, zero, 2), 2, api.ErrFlow},
		{"round by a label that rises late", fileOf(pair, "\x01", push, 1, out, 0, load, 0, zero, 5, jump, 0), 1, api.ErrFlow},
		{"the same, with the log of the secret", fileOf(pair, "\x01", push, 1, out, 1, load, 0, zero, 5, jump, 0), 0, api.OK},
		{"what a variable was given does not count", fileOf(pair, "\x01", push, 1, store, 0, load, 0, out, 0), 3, api.ErrFlow},
		{"the bottom is not level 0", fileOf("1011", "", push, 1, out, 1, in, 1, out, 0), 0, api.OK},
		{"a value pushed in the region, taken behind it", fileOf(pair, "", in, 1, zero, 4, push, 7, jump, 5, push, 8, out, 0), 5, api.ErrFlow},
		{"a value below the region is as it was", fileOf(pair, "", push, 5, in, 1, zero, 5, push, 1, out, 1, out, 0), 0, api.OK},
	})
}

// 200 instructions that choose to and fro take no long time.
func TestP5Time(t *testing.T) {
	source := rand.New(rand.NewSource(7))
	start := time.Now()
	for round := 0; round < 200; round++ {
		text := repeat(100, in, 5, zero, 0)
		for place := 1; place < 200; place += 2 {
			text[2*place-1] = byte(source.Intn(6))
			text[2*place+1] = byte(2 * source.Intn(101))
		}
		sluice.Check(fileOf(chain6, "", text...))
	}
	if spent := time.Since(start); spent > 20*time.Second {
		t.Errorf("P1: 200 files took %s", spent)
	}
}
