package lattice

import (
	"testing"

	"sluice/api"
)

// tableOf writes the bits of number into a table of n levels, the diagonal being 1.
func tableOf(n int, number int) string {
	text := []byte{}
	for a := 0; a < n; a++ {
		for b := 0; b < n; b++ {
			if a == b {
				text = append(text, '1')
				continue
			}
			text = append(text, byte('0'+number&1))
			number >>= 1
		}
	}
	return string(text)
}

// upward writes the bits of number above the diagonal: no level is below a lesser one.
func upward(n int, number int) string {
	text := []byte{}
	for a := 0; a < n; a++ {
		for b := 0; b < n; b++ {
			bit := byte('0')
			if a == b {
				bit = '1'
			}
			if a < b {
				bit += byte(number & 1)
				number >>= 1
			}
			text = append(text, bit)
		}
	}
	return string(text)
}

// renamed gives level a of a table the number names[a].
func renamed(text string, names []int) string {
	n := len(names)
	answer := make([]byte, n*n)
	for a := 0; a < n; a++ {
		for b := 0; b < n; b++ {
			answer[names[a]*n+names[b]] = text[a*n+b]
		}
	}
	return string(answer)
}

func permutations(n int) [][]int {
	if n == 0 {
		return [][]int{{}}
	}
	answer := [][]int{}
	for _, shorter := range permutations(n - 1) {
		for at := 0; at < n; at++ {
			longer := append([]int{}, shorter[:at]...)
			longer = append(longer, n-1)
			longer = append(longer, shorter[at:]...)
			answer = append(answer, longer)
		}
	}
	return answer
}

// The numbers of orders and lattices on named levels are well known.
func TestP3CountsOfOrdersAndLattices(t *testing.T) {
	for _, c := range []struct{ n, orders, lattices int }{
		{1, 1, 1}, {2, 3, 2}, {3, 19, 6}, {4, 219, 36}, {5, 4231, 380},
	} {
		orders := 0
		lattices := 0
		for number := 0; number < 1<<(c.n*(c.n-1)); number++ {
			table, errno := Open(tableOf(c.n, number))
			if errno == api.OK && table.Levels == c.n {
				lattices++
			}
			if errno == api.OK || errno == api.ErrLattice {
				orders++
			}
		}
		if orders != c.orders || lattices != c.lattices {
			t.Errorf("P3: %d levels: %d orders, %d lattices, want %d, %d", c.n, orders, lattices, c.orders, c.lattices)
		}
	}
}

// Of six levels there are too many tables to walk through: every order is one
// whose levels go upward, under other names.
func TestP3CountsOfSixLevels(t *testing.T) {
	orders := 0
	lattices := map[string]bool{}
	names := permutations(6)
	for number := 0; number < 1<<15; number++ {
		text := upward(6, number)
		_, errno := Open(text)
		if errno == api.OK || errno == api.ErrLattice {
			orders++
		}
		if errno != api.OK {
			continue
		}
		for _, row := range names {
			lattices[renamed(text, row)] = true
		}
	}
	if orders != 4824 || len(lattices) != 6390 {
		t.Errorf("P3: 6 levels: %d upward orders, %d lattices, want 4824, 6390", orders, len(lattices))
	}
	for text := range lattices {
		if table, errno := Open(text); errno != api.OK || table.Levels != 6 {
			t.Errorf("P3: %s: %d levels, %d", text, table.Levels, errno)
		}
	}
}

// checkBounds holds the joins and meets of a lattice to what the words say of them.
func checkBounds(t *testing.T, text string, n int) {
	table, errno := Open(text)
	if errno != api.OK {
		return
	}
	under := func(a int, b int) bool { return text[a*n+b] == '1' }
	for a := 0; a < n; a++ {
		if !under(table.Bottom(), a) {
			t.Errorf("%s: the bottom %d", text, table.Bottom())
		}
	}
	for a := 0; a < n; a++ {
		for b := 0; b < n; b++ {
			join, hasJoin := table.Join(a, b)
			meet, hasMeet := table.Meet(a, b)
			good := hasJoin && hasMeet && under(a, join) && under(b, join) && under(meet, a) && under(meet, b)
			for c := 0; c < n && good; c++ {
				good = !(under(a, c) && under(b, c)) || under(join, c)
				good = good && (!(under(c, a) && under(c, b)) || under(c, meet))
			}
			if !good {
				t.Errorf("P3: %s: of %d and %d the join %d, the meet %d", text, a, b, join, meet)
			}
		}
	}
}

func TestP3BoundsOfAllLattices(t *testing.T) {
	for n := 1; n <= 4; n++ {
		for number := 0; number < 1<<(n*(n-1)); number++ {
			checkBounds(t, tableOf(n, number), n)
		}
	}
	for n := 5; n <= 6; n++ {
		turn := []int{3, 0, 4, 1, 2, 5}[:n]
		for number := 0; number < 1<<(n*(n-1)/2); number++ {
			text := upward(n, number)
			checkBounds(t, text, n)
			checkBounds(t, renamed(text, turn), n)
		}
	}
}

// In the second table a 1 stands where the row of level 0 would go on, if it were longer.
func TestNoLevelOfTheTable(t *testing.T) {
	for _, text := range []string{"1101", "1011"} {
		table, _ := Open(text)
		for _, level := range []int{-1, 2, -1 << 63, 1<<63 - 1} {
			if table.Has(level) || table.Below(level, 0) || table.Below(0, level) {
				t.Errorf("%s: %d is taken for a level", text, level)
			}
			if join, ok := table.Join(0, level); join != 0 || ok {
				t.Errorf("%s: Join(0, %d) = %d, %t", text, level, join, ok)
			}
			if meet, ok := table.Meet(level, 0); meet != 0 || ok {
				t.Errorf("%s: Meet(%d, 0) = %d, %t", text, level, meet, ok)
			}
		}
	}
}

func TestNoBottom(t *testing.T) {
	for _, text := range []string{"1001", "101011001"} {
		table, _ := Read(text)
		if bottom := table.Bottom(); bottom != 0 {
			t.Errorf("%s: the bottom %d", text, bottom)
		}
	}
}

func TestText(t *testing.T) {
	for _, text := range []string{"1", "0", "1101", "1111010100110001"} {
		if table, ok := Read(text); !ok || table.Text() != text {
			t.Errorf("%q: %q, %t", text, table.Text(), ok)
		}
	}
}
