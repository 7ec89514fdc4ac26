package lattice

import (
	"math/rand"
	"testing"

	"sluice/api"
)

// follows tells by way of steps whether b comes behind a, one pair behind another.
func follows(levels int, pairs [][2]int, a int, b int) bool {
	reached := make([]bool, levels)
	reached[a] = true
	for range levels {
		for _, pair := range pairs {
			reached[pair[1]] = reached[pair[1]] || reached[pair[0]]
		}
	}
	return reached[b]
}

func checkPairs(t *testing.T, levels int, pairs [][2]int) {
	t.Helper()
	p := NewPairs(levels)
	want := ""
	for _, pair := range pairs {
		p.Add(pair[0], pair[1])
	}
	for a := 0; a < levels; a++ {
		for b := 0; b < levels; b++ {
			want += map[bool]string{false: "0", true: "1"}[follows(levels, pairs, a, b)]
		}
	}
	if text := p.Text(); text != want {
		t.Errorf("P8: %d levels, %v: %s, want %s", levels, pairs, text, want)
	}
}

func TestP8OrderOfRandomPairs(t *testing.T) {
	source := rand.New(rand.NewSource(1))
	for round := 0; round < 20000; round++ {
		levels := 1 + source.Intn(6)
		pairs := [][2]int{}
		for count := source.Intn(9); count > 0; count-- {
			pairs = append(pairs, [2]int{source.Intn(levels), source.Intn(levels)})
		}
		checkPairs(t, levels, pairs)
	}
}

// Of six levels in a row, the pairs in any order.
func TestP8OrderOfPairsInAnyOrder(t *testing.T) {
	for _, row := range permutations(5) {
		pairs := [][2]int{}
		for _, low := range row {
			pairs = append(pairs, [2]int{low, low + 1})
		}
		checkPairs(t, 6, pairs)
	}
}

// All orders of few levels come back from their pairs.
func TestP8PairsOfAllOrders(t *testing.T) {
	for n := 1; n <= 4; n++ {
		for number := 0; number < 1<<(n*(n-1)); number++ {
			text := tableOf(n, number)
			if _, errno := Open(text); errno == api.ErrOrder {
				continue
			}
			p := NewPairs(n)
			for place := range n * n {
				if text[place] == '1' {
					p.Add(place/n, place%n)
				}
			}
			if p.Text() != text {
				t.Errorf("P8: %s comes back as %s", text, p.Text())
			}
		}
	}
}

func TestPairsOfNoLevels(t *testing.T) {
	for _, levels := range []int{-1, 0, 7, 1 << 62, -1 << 63} {
		p := NewPairs(levels)
		p.Add(0, 0)
		if p.Text() != "" {
			t.Errorf("%d levels: %q", levels, p.Text())
		}
	}
	for _, level := range []int{-1, 2, 3, 5, 6, 1 << 62, -1 << 63} {
		p := NewPairs(2)
		p.Add(level, 0)
		p.Add(1, level)
		if p.Text() != "1001" {
			t.Errorf("level %d: %q", level, p.Text())
		}
	}
}

func TestSet(t *testing.T) {
	set := Set{}
	for _, level := range []int{-1, 6, 1 << 62, -1 << 63} {
		set.Add(level)
		if set.Has(level) || set != (Set{}) {
			t.Errorf("%d is taken for a level", level)
		}
	}
	for level := 0; level < 6; level++ {
		if set.Has(level) {
			t.Errorf("%d is in the set too early", level)
		}
		set.Add(level)
		if !set.Has(level) {
			t.Errorf("%d cannot be laid in", level)
		}
	}
}

// The join of a set is at or below a level just if all of the set and the bottom are.
func TestP10JoinOfASet(t *testing.T) {
	for n := 1; n <= 4; n++ {
		for number := 0; number < 1<<(n*(n-1)); number++ {
			table, errno := Open(tableOf(n, number))
			for members := 0; members < 1<<n && errno == api.OK; members++ {
				set := Set{}
				for level := 0; level < n; level++ {
					if members>>level&1 == 1 {
						set.Add(level)
					}
				}
				join := table.JoinOf(set)
				for level := 0; level < n; level++ {
					all := true
					for member := 0; member < n; member++ {
						all = all && (!set.Has(member) || table.Below(member, level))
					}
					if table.Below(join, level) != all {
						t.Errorf("P10: %s: the join of %b is %d", table.Text(), members, join)
					}
				}
			}
		}
	}
}
