package flow

import (
	"testing"

	"sluice/api"
	"sluice/lattice"
	"sluice/translation"
)

func setOf(levels ...int) lattice.Set {
	set := lattice.Set{}
	for _, level := range levels {
		set.Add(level)
	}
	return set
}

func open(t *testing.T, text string) lattice.Table {
	t.Helper()
	table, errno := lattice.Open(text)
	if errno != api.OK {
		t.Fatalf("%s: error %d", text, errno)
	}
	return table
}

// Two levels, 1 at or below 0: the bottom is not the first.
func TestP10Rules(t *testing.T) {
	table := open(t, "1011")
	outer := translation.NoBlock
	secret := translation.Statement{Kind: translation.Choose, Place: 1, Outer: outer, Reads: setOf(0)}
	for _, c := range []struct {
		name  string
		s     translation.Statement
		leaks bool
	}{
		{"nothing to the bottom", translation.Statement{Kind: translation.Assign, Outer: outer, Target: 1}, false},
		{"a secret to the bottom", translation.Statement{Kind: translation.Assign, Outer: outer, Target: 1, Reads: setOf(0)}, true},
		{"a secret upward", translation.Statement{Kind: translation.Assign, Outer: outer, Target: 0, Reads: setOf(0, 1)}, false},
		{"a secret on the bottom's log", translation.Statement{Kind: translation.Write, Outer: outer, Target: 1, Reads: setOf(1, 0)}, true},
		{"in a block", translation.Statement{Kind: translation.Assign, Target: 1}, true},
		{"on a log, in a block", translation.Statement{Kind: translation.Write, Target: 1}, true},
		{"upward, in a block", translation.Statement{Kind: translation.Write, Target: 0}, false},
		{"a tape, in a block", translation.Statement{Kind: translation.Choose, Reads: setOf(1), Tapes: setOf(1)}, true},
		{"a secret tape, in a block", translation.Statement{Kind: translation.Choose, Reads: setOf(0), Tapes: setOf(0)}, false},
		{"both tapes, in no block", translation.Statement{Kind: translation.Choose, Outer: outer, Reads: setOf(0, 1), Tapes: setOf(0, 1)}, false},
		{"both tapes of a loop", translation.Statement{Kind: translation.Repeat, Outer: outer, Reads: setOf(0, 1), Tapes: setOf(0, 1)}, true},
		{"a tape of a loop", translation.Statement{Kind: translation.Repeat, Outer: outer, Reads: setOf(1), Tapes: setOf(1)}, false},
		{"a tape of a secret loop", translation.Statement{Kind: translation.Repeat, Outer: outer, Reads: setOf(0, 1), Tapes: setOf(1)}, true},
		{"a loop in a block", translation.Statement{Kind: translation.Repeat, Reads: setOf(1)}, false},
		{"in the block of no statement", translation.Statement{Kind: translation.Assign, Outer: 9, Target: 1}, false},
	} {
		c.s.Place = 7
		place, found := FirstLeak(table, []translation.Statement{secret, c.s, {Kind: translation.Assign, Place: 9, Target: 0}})
		if found != c.leaks || found && place != 7 || !found && place != 0 {
			t.Errorf("P10: %s: %d, %t", c.name, place, found)
		}
	}
}

func TestP10NoStatements(t *testing.T) {
	if place, found := FirstLeak(open(t, "1"), nil); place != 0 || found {
		t.Errorf("P10: %d, %t", place, found)
	}
}
