package check

import (
	"sluice/api"
	"sluice/paths"
	"sluice/program"
)

// heightTable tells how many values lie on the stack at each live place.
type heightTable struct {
	known paths.Set
	at    [api.MaxCode + 1]int
}

// heightsOf finds the heights; false, if the live places cannot have any.
func heightsOf(file program.File) (heightTable, bool) {
	found := heightTable{}
	ok := found.lay(file, 0, 0)
	if !ok {
		return heightTable{}, false
	}
	return found, true
}

// lay gives a live place its height, and all places behind it theirs; false,
// if the place has another already or may not have this one.
func (h *heightTable) lay(file program.File, place int, height int) bool {
	if place < 0 || place >= len(h.at) {
		return false
	}
	if !h.known.Add(place) {
		return h.at[place] == height
	}
	h.at[place] = height
	if place == file.Length() {
		return height == 0
	}
	operation, _ := file.Instruction(place)
	rest := height - program.Pops(operation)
	if height > api.MaxStack || rest < 0 {
		return false
	}
	next, other := file.Behind(place)
	above := rest + program.Pushes(operation)
	if !h.lay(file, next, above) {
		return false
	}
	return h.lay(file, other, above)
}

// of tells the height of a place; 0, if it has none.
func (h *heightTable) of(place int) int {
	if place < 0 || place >= len(h.at) {
		return 0
	}
	return h.at[place]
}
