package sluice_test

import "sluice/api"

// code is a sound file's code, looked at word by word as the document has it,
// without regard to how long that takes.
type code struct {
	table string
	vars  string
	text  []byte
}

func (c code) end() int { return len(c.text) / 2 }

func (c code) at(place int) (byte, int) { return c.text[2*place], int(c.text[2*place+1]) }

func (c code) levels() int {
	side := 1
	for side*side < len(c.table) {
		side++
	}
	return side
}

func (c code) below(a int, b int) bool { return c.table[a*c.levels()+b] == '1' }

func (c code) behind(place int) []int {
	if place == c.end() {
		return nil
	}
	switch operation, operand := c.at(place); operation {
	case api.Jump:
		return []int{operand}
	case api.Zero:
		return []int{place + 1, operand}
	}
	return []int{place + 1}
}

// reach tells all places to which a path leads from one of the starts, without the barrier.
func (c code) reach(barrier int, starts ...int) []bool {
	found := make([]bool, c.end()+1)
	for len(starts) > 0 {
		place := starts[0]
		starts = starts[1:]
		if place != barrier && !found[place] {
			found[place] = true
			starts = append(starts, c.behind(place)...)
		}
	}
	return found
}

// junction looks for a place on every path to the end, to which a path leads
// that meets no other such place ahead of it.
func (c code) junction(zero int) int {
	common := []int{}
	for place := 0; place <= c.end(); place++ {
		if place != zero && !c.reach(place, zero)[c.end()] {
			common = append(common, place)
		}
	}
	for _, place := range common {
		first := true
		for _, other := range common {
			first = first && (other == place || c.reach(other, zero)[place])
		}
		if first {
			return place
		}
	}
	return -1
}

var popsOf = []int{0, 0, 1, 2, 2, 2, 2, 2, 0, 1, 0, 1}
var pushesOf = []int{1, 1, 0, 1, 1, 1, 1, 1, 0, 0, 1, 0}

// heights tells the heights of the live places, or false.
func (c code) heights() (map[int]int, bool) {
	heights := map[int]int{0: 0}
	for rounds := 0; rounds <= c.end(); rounds++ {
		for place := 0; place < c.end(); place++ {
			height, known := heights[place]
			operation, _ := c.at(place)
			if !known {
				continue
			}
			if height < popsOf[operation] {
				return nil, false
			}
			for _, next := range c.behind(place) {
				above := height - popsOf[operation] + pushesOf[operation]
				if old, ok := heights[next]; ok && old != above || above > 8 {
					return nil, false
				}
				heights[next] = above
			}
		}
	}
	return heights, heights[c.end()] == 0
}

// taint is a set of levels, a bit each. It stands for a label: their join. So
// a label is at or below a level just if all of the set are.
type taint int

func (c code) fits(label taint, level int) bool {
	for a := 0; a < c.levels(); a++ {
		if label>>a&1 == 1 && !c.below(a, level) {
			return false
		}
	}
	return true
}

type spot struct{ place, depth int }

// taints goes through the three rules of the labels again and again until none adds anything.
func (c code) taints(heights map[int]int) (map[int]taint, map[spot]taint) {
	regions := map[int][]bool{}
	for place := range heights {
		if place < c.end() && c.text[2*place] == api.Zero {
			regions[place] = c.reach(c.junction(place), c.behind(place)...)
		}
	}
	places := map[int]taint{}
	values := map[spot]taint{}
	sum := func() int {
		total := 0
		for _, label := range places {
			total += int(label)
		}
		for _, label := range values {
			total += int(label)
		}
		return total
	}
	for before := -1; before != sum(); {
		before = sum()
		for place := range heights {
			if place == c.end() {
				continue
			}
			c.pass(place, heights[place], places, values)
			for other, inside := range regions[place] {
				if inside {
					places[other] |= places[place] | values[spot{place, heights[place] - 1}]
				}
			}
		}
	}
	return places, values
}

func (c code) pass(place int, height int, places map[int]taint, values map[spot]taint) {
	operation, operand := c.at(place)
	rest := height - popsOf[operation]
	for _, next := range c.behind(place) {
		for depth := 0; depth < rest; depth++ {
			values[spot{next, depth}] |= values[spot{place, depth}]
		}
		if pushesOf[operation] == 0 {
			continue
		}
		label := places[place]
		if operation == api.Load {
			label |= 1 << c.vars[operand]
		}
		if operation == api.In {
			label |= 1 << operand
		}
		for depth := rest; depth < height; depth++ {
			label |= values[spot{place, depth}]
		}
		values[spot{next, rest}] |= label
	}
}

// judge is P5, of a sound file.
func (c code) judge() (int, api.Errno) {
	live := c.reach(-1, 0)
	for place := 0; place < c.end(); place++ {
		if live[place] && !c.reach(-1, place)[c.end()] {
			return place, api.ErrLoop
		}
	}
	heights, ok := c.heights()
	if !ok {
		return 0, api.ErrStack
	}
	places, values := c.taints(heights)
	for place := 0; place < c.end(); place++ {
		if !live[place] {
			continue
		}
		operation, operand := c.at(place)
		label := places[place]
		popped := values[spot{place, heights[place] - 1}]
		if operation == api.Store && !c.fits(label|popped, int(c.vars[operand])) ||
			operation == api.Out && !c.fits(label|popped, operand) ||
			operation == api.In && !c.fits(label, operand) {
			return place, api.ErrFlow
		}
	}
	return 0, api.OK
}

// run is P6, of a file that is let through.
func (c code) run(tapes api.Tapes, fuel int) api.Result {
	result := api.Result{End: 2}
	vars, stack := make([]byte, len(c.vars)), []byte{}
	place := 0
	pop := func() byte {
		value := stack[len(stack)-1]
		stack = stack[:len(stack)-1]
		return value
	}
	for ; place < c.end() && result.Steps < fuel; result.Steps++ {
		operation, operand := c.at(place)
		var a, b byte
		switch popsOf[operation] {
		case 2:
			b = pop()
			a = pop()
		case 1:
			a = pop()
		}
		place = c.behind(place)[0]
		switch operation {
		case api.Push:
			stack = append(stack, byte(operand))
		case api.Load:
			stack = append(stack, vars[operand])
		case api.Store:
			vars[operand] = a
		case api.Zero:
			if a == 0 {
				place = operand
			}
		case api.In:
			stack = append(stack, (tapes[operand] + "\x00")[0])
			tapes[operand] = tapes[operand][min(1, len(tapes[operand])):]
		case api.Out:
			result.Logs[operand] += string([]byte{a})
		case api.Add, api.Sub, api.Mul, api.Less, api.Same:
			made := map[byte]byte{api.Add: a + b, api.Sub: a - b, api.Mul: a * b}
			if operation == api.Less && a < b || operation == api.Same && a == b {
				made[operation] = 1
			}
			stack = append(stack, made[operation])
		}
	}
	if place == c.end() {
		result.End = 1
	}
	result.Vars = string(vars)
	return result
}
