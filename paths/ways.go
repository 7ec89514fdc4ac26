package paths

import (
	"sluice/api"
	"sluice/program"
)

// Ways has a way to the end for each place from which a path leads there. A way
// goes to places found earlier alone, so that it never comes back.
type Ways struct {
	file  program.File
	count int                  // how many ways are found
	turn  [api.MaxCode + 1]int // when the place's way was found; 0, if it has none
	ahead [api.MaxCode + 1]int // where the way goes on
}

// WaysOf finds the ways from the end backward. First a way goes from place to
// place behind; then it is narrowed, until it has just the places that are on
// every path.
func WaysOf(file program.File) Ways {
	ways := Ways{file: file}
	end := file.Length()
	ways.add(end, end)
	for grown := true; grown; {
		grown = ways.grow()
	}
	for narrowed := true; narrowed; {
		narrowed = ways.narrow()
	}
	return ways
}

// Ends tells whether a path leads from the place to the end.
func (w *Ways) Ends(place int) bool {
	return w.turnOf(place) > 0
}

// Junction tells the first place that all paths from this one to the end meet.
// It is the end, if there is no such path.
func (w *Ways) Junction(place int) int {
	if !w.Ends(place) {
		return w.file.Length()
	}
	return w.step(place)
}

func (w *Ways) turnOf(place int) int {
	if place < 0 || place >= len(w.turn) {
		return 0
	}
	return w.turn[place]
}

func (w *Ways) step(place int) int {
	if place < 0 || place >= len(w.ahead) {
		return w.file.Length()
	}
	return w.ahead[place]
}

// add lays down where the way of a place goes on; false, if it has one already.
func (w *Ways) add(place int, ahead int) bool {
	if place < 0 || place >= len(w.turn) || w.turn[place] > 0 {
		return false
	}
	w.count++
	w.turn[place] = w.count
	w.ahead[place] = ahead
	return true
}

// grow finds ways that go on along those found already; false, if there is none left.
func (w *Ways) grow() bool {
	grown := false
	for place := w.file.Length() - 1; place >= 0; place-- {
		ahead, other := w.file.Behind(place)
		if !w.Ends(ahead) {
			ahead = other
		}
		if !w.Ends(ahead) {
			continue
		}
		if w.add(place, ahead) {
			grown = true
		}
	}
	return grown
}

// narrow leaves out of the ways what a path can go around; false, if there is
// nothing left. What is on every path is on the ways of both places behind, so
// it is not left out.
func (w *Ways) narrow() bool {
	narrowed := false
	for place := w.file.Length() - 1; place >= 0; place-- {
		ahead, ok := w.meeting(place)
		if ok && ahead != w.step(place) {
			w.move(place, ahead)
			narrowed = true
		}
	}
	return narrowed
}

func (w *Ways) move(place int, ahead int) {
	if place >= 0 && place < len(w.ahead) {
		w.ahead[place] = ahead
	}
}

// meeting tells where the ways of the two places behind a place meet; false, if
// one of them has none.
func (w *Ways) meeting(place int) (int, bool) {
	one, other := w.file.Behind(place)
	for one != other {
		turn := w.turnOf(one)
		otherTurn := w.turnOf(other)
		if turn == 0 || otherTurn == 0 {
			return 0, false
		}
		if turn > otherTurn {
			one = w.step(one)
		} else {
			other = w.step(other)
		}
	}
	return one, w.Ends(one)
}
