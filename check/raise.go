package check

import "sluice/api"

func (l *labelTable) join(a int, b int) int {
	level, _ := l.file.Table.Join(a, b)
	return level
}

func (l *labelTable) ofPlace(place int) int {
	if place < 0 || place >= len(l.places) {
		return 0
	}
	return l.places[place]
}

// ofPopped tells the label of the value that the instruction pops first, second.
func (l *labelTable) ofPopped(place int, count int) int {
	height := l.heights.of(place)
	return l.ofValue(place, height-count)
}

// ofValue tells the label of a value on the stack; the lowest on it has depth 0.
func (l *labelTable) ofValue(place int, depth int) int {
	if place < 0 || place >= len(l.values) || depth < 0 || depth >= api.MaxStack {
		return 0
	}
	return l.values[place][depth]
}

func (l *labelTable) raisePlace(place int, level int) {
	if place < 0 || place >= len(l.places) {
		return
	}
	raised := l.join(l.places[place], level)
	if raised != l.places[place] {
		l.places[place] = raised
		l.waiting.Add(place)
	}
}

func (l *labelTable) raiseValue(place int, depth int, level int) {
	if place < 0 || place >= len(l.values) || depth < 0 || depth >= api.MaxStack {
		return
	}
	raised := l.join(l.values[place][depth], level)
	if raised != l.values[place][depth] {
		l.values[place][depth] = raised
		l.waiting.Add(place)
	}
}
