// Package check tells whether the secrets of a program stay in.
package check

import (
	"sluice/api"
	"sluice/paths"
	"sluice/program"
)

// Judge tells whether a program is let through, or the place of the fault and its error.
func Judge(file program.File) (int, api.Errno) {
	live := paths.Live(file)
	ways := paths.WaysOf(file)
	place, found := findTrap(file, &live, &ways)
	if found {
		return place, api.ErrLoop
	}
	heights, ok := heightsOf(file)
	if !ok {
		return 0, api.ErrStack
	}
	labels := newLabels(file, &heights)
	labels.findRegions(&live, &ways)
	labels.settle()
	place, found = labels.findLeak(&live)
	if found {
		return place, api.ErrFlow
	}
	return 0, api.OK
}

// findTrap tells the least live place from which no path leads to the end.
func findTrap(file program.File, live *paths.Set, ways *paths.Ways) (int, bool) {
	for place := 0; place < file.Length(); place++ {
		if !live.Has(place) {
			continue
		}
		if !ways.Ends(place) {
			return place, true
		}
	}
	return 0, false
}

// findLeak tells the least live place whose instruction breaks a rule.
func (l *labelTable) findLeak(live *paths.Set) (int, bool) {
	for place := 0; place < l.file.Length(); place++ {
		if !live.Has(place) {
			continue
		}
		if l.leaks(place) {
			return place, true
		}
	}
	return 0, false
}

func (l *labelTable) leaks(place int) bool {
	operation, operand := l.file.Instruction(place)
	level := l.ofPlace(place)
	switch operation {
	case api.Store:
		level = l.join(level, l.ofPopped(place, 1))
		return !l.file.Table.Below(level, l.file.Level(operand))
	case api.Out:
		level = l.join(level, l.ofPopped(place, 1))
		return !l.file.Table.Below(level, operand)
	case api.In:
		return !l.file.Table.Below(level, operand)
	}
	return false
}
