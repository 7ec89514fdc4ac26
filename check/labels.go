package check

import (
	"sluice/api"
	"sluice/paths"
	"sluice/program"
)

// labelTable has a label for each place, and for each value on the stack there.
type labelTable struct {
	file    program.File
	heights *heightTable
	regions [api.MaxCode + 1]paths.Set
	places  [api.MaxCode + 1]int
	values  [api.MaxCode + 1][api.MaxStack]int
	waiting paths.Set // the places that have not yet handed on what their labels ask of others
}

// newLabels lays the bottom everywhere: from there labels only rise, and only
// as far as they must, so that they end as the lowest.
func newLabels(file program.File, heights *heightTable) *labelTable {
	l := labelTable{file: file, heights: heights}
	bottom := file.Table.Bottom()
	for place := range l.places {
		l.places[place] = bottom
		for depth := range l.values[place] {
			l.values[place][depth] = bottom
		}
	}
	return &l
}

// findRegions tells the regions, and lets every live place hand on once.
func (l *labelTable) findRegions(live *paths.Set, ways *paths.Ways) {
	for place := range l.regions {
		if !live.Has(place) {
			continue
		}
		l.waiting.Add(place)
		operation, _ := l.file.Instruction(place)
		if operation == api.Zero {
			l.regions[place] = paths.Region(l.file, place, ways.Junction(place))
		}
	}
}

// settle raises labels until all asked of them holds. It ends: a place waits
// again only where a label rose, and none rises more often than there are levels.
func (l *labelTable) settle() {
	for moved := true; moved; {
		moved = l.round()
	}
}

// round lets the waiting places hand on; false, if there is none.
func (l *labelTable) round() bool {
	moved := false
	for place := 0; place < l.file.Length(); place++ {
		if l.waiting.Remove(place) {
			l.handOn(place)
			moved = true
		}
	}
	return moved
}

func (l *labelTable) handOn(place int) {
	next, other := l.file.Behind(place)
	l.handOnStack(place, next)
	l.handOnStack(place, other)
	operation, _ := l.file.Instruction(place)
	if operation == api.Zero {
		l.handOnChoice(place)
	}
}

// handOnStack raises the labels at a place behind: of what stays and of what is pushed.
func (l *labelTable) handOnStack(place int, behind int) {
	operation, _ := l.file.Instruction(place)
	staying := l.heights.of(place) - program.Pops(operation)
	for depth := 0; depth < staying; depth++ {
		level := l.ofValue(place, depth)
		l.raiseValue(behind, depth, level)
	}
	if program.Pushes(operation) > 0 {
		level := l.ofPushed(place)
		l.raiseValue(behind, staying, level)
	}
}

// handOnChoice raises the labels of the places in the region of a ZERO.
func (l *labelTable) handOnChoice(zero int) {
	popped := l.ofPopped(zero, 1)
	level := l.join(l.ofPlace(zero), popped)
	for place := 0; place < l.file.Length(); place++ {
		if l.isInRegion(place, zero) {
			l.raisePlace(place, level)
		}
	}
}

func (l *labelTable) isInRegion(place int, zero int) bool {
	return zero >= 0 && zero < len(l.regions) && l.regions[zero].Has(place)
}

// ofPushed tells the label that a pushed value must have at least.
func (l *labelTable) ofPushed(place int) int {
	operation, operand := l.file.Instruction(place)
	level := l.ofPlace(place)
	switch operation {
	case api.Load:
		return l.join(level, l.file.Level(operand))
	case api.In:
		return l.join(level, operand)
	case api.Add, api.Sub, api.Mul, api.Less, api.Same:
		level = l.join(level, l.ofPopped(place, 1))
		return l.join(level, l.ofPopped(place, 2))
	}
	return level
}
