package paths

import (
	"math/rand"
	"testing"

	"sluice/api"
	"sluice/program"
)

// fileOf makes a file of places that go on as the operands say: ZERO to the
// next place and the operand, JUMP to the operand, PUSH to the next place.
func fileOf(t *testing.T, code ...byte) program.File {
	t.Helper()
	file, errno := program.Open("S\x011\x00" + string([]byte{byte(len(code) / 2)}) + string(code))
	if errno != api.OK {
		t.Fatalf("%v: error %d", code, errno)
	}
	return file
}

// reach is the same as follow, said otherwise: what a place reaches, all places behind it reach.
func reach(file program.File, barrier int, starts ...int) map[int]bool {
	found := map[int]bool{}
	for _, place := range starts {
		found[place] = place != barrier
	}
	for rounds := 0; rounds <= file.Length(); rounds++ {
		for place := 0; place < file.Length(); place++ {
			if found[place] {
				next, other := file.Behind(place)
				found[next] = next != barrier
				found[other] = other != barrier
			}
		}
	}
	return found
}

// isJunction tells whether a place is on every path from the ZERO to the end,
// and whether no other such place can be met ahead of it.
func isJunction(file program.File, zero int, junction int) bool {
	end := file.Length()
	if junction == zero || reach(file, junction, zero)[end] {
		return false
	}
	for place := range reach(file, junction, zero) {
		if place != zero && place != junction && !reach(file, place, zero)[end] {
			return false
		}
	}
	return true
}

func checkPlaces(t *testing.T, file program.File, code []byte) {
	t.Helper()
	live := Live(file)
	ways := WaysOf(file)
	reached := reach(file, -1, 0)
	for place := 0; place <= file.Length(); place++ {
		ends := reach(file, -1, place)[file.Length()]
		if live.Has(place) != reached[place] || ways.Ends(place) != ends {
			t.Errorf("%v: %d is live: %t, comes to the end: %t", code, place, live.Has(place), ways.Ends(place))
		}
		if !ends || place == file.Length() {
			continue
		}
		junction := ways.Junction(place)
		if !isJunction(file, place, junction) {
			t.Errorf("%v: the junction of %d is not %d", code, place, junction)
		}
		next, other := file.Behind(place)
		region := Region(file, place, junction)
		within := reach(file, junction, next, other)
		for inside := 0; inside <= file.Length(); inside++ {
			if region.Has(inside) != within[inside] {
				t.Errorf("%v: %d in the region of %d: %t", code, inside, place, region.Has(inside))
			}
		}
	}
}

func TestP5Junctions(t *testing.T) {
	source := rand.New(rand.NewSource(1))
	for round := 0; round < 4000; round++ {
		length := 1 + source.Intn(14)
		code := []byte{}
		for place := 0; place < length; place++ {
			operation := []byte{api.Zero, api.Zero, api.Jump, api.Push}[source.Intn(4)]
			code = append(code, operation, byte(source.Intn(length+1)))
		}
		checkPlaces(t, fileOf(t, code...), code)
	}
}

// A place from which a path may stray into a ring meets, on its way to the end, what it meets.
func TestJunctionBesideARing(t *testing.T) {
	file := fileOf(t, api.Zero, 3, api.Jump, 2, api.Jump, 1, api.Push, 0, api.Push, 0)
	ways := WaysOf(file)
	for _, c := range []struct{ place, junction int }{
		{0, 3}, {1, 5}, {2, 5}, {3, 4}, {4, 5}, {5, 5}, {-1, 5}, {6, 5}, {api.MaxCode + 1, 5}, {1 << 62, 5},
	} {
		if junction := ways.Junction(c.place); junction != c.junction {
			t.Errorf("the junction of %d is %d, want %d", c.place, junction, c.junction)
		}
		if ends := c.place == 0 || c.place >= 3 && c.place <= 5; ways.Ends(c.place) != ends {
			t.Errorf("%d comes to the end: %t", c.place, !ends)
		}
	}
}

func TestSet(t *testing.T) {
	set := Set{}
	for _, place := range []int{-1, api.MaxCode + 1, 1 << 62, -1 << 63} {
		if set.Add(place) || set.Has(place) || set.Remove(place) {
			t.Errorf("%d is taken for a place", place)
		}
	}
	for _, place := range []int{0, 7, api.MaxCode} {
		if set.Has(place) || set.Remove(place) || !set.Add(place) || set.Add(place) || !set.Has(place) {
			t.Errorf("%d cannot be laid in", place)
		}
		if !set.Remove(place) || set.Has(place) || set.Remove(place) {
			t.Errorf("%d cannot be taken out", place)
		}
	}
}
