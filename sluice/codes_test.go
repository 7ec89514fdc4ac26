package sluice_test

import (
	"math/rand"
	"testing"

	"sluice/api"
	"sluice/sluice"
)

// checkByWords holds Check to what the words of the document come to.
func checkByWords(t *testing.T, c code) (int, api.Errno) {
	t.Helper()
	file := fileOf(c.table, c.vars, c.text...)
	at, errno := sluice.Check(file)
	wantAt, want := c.judge()
	if at != wantAt || errno != want {
		t.Errorf("P5: Check(%q) = %d, %d, want %d, %d", file, at, errno, wantAt, want)
	}
	return at, errno
}

// operandFor draws an operand that the operation may have.
func (c code) operandFor(source *rand.Rand, operation byte) byte {
	bounds := []int{256, len(c.vars), len(c.vars), 1, 1, 1, 1, 1, c.end() + 1, c.end() + 1, c.levels(), c.levels()}
	return byte(source.Intn(bounds[operation]))
}

// operationFor draws an operation that may stand at that height.
func operationFor(source *rand.Rand, height int, choices int, down bool) byte {
	for {
		operation := source.Intn(12 + choices)
		if operation > 11 {
			operation = api.Zero
		}
		change := pushesOf[operation] - popsOf[operation]
		if popsOf[operation] <= height && height+change <= 8 && !(down && change >= 0) {
			return byte(operation)
		}
	}
}

// randomCode draws instructions whose heights fit together if the program goes on
// from each to the next, and then places to go to where the height is the right one.
func randomCode(source *rand.Rand, tables []string, length int) code {
	c := code{table: tables[source.Intn(len(tables))]}
	for count := source.Intn(4); count >= 0; count-- {
		c.vars += string([]byte{byte(source.Intn(c.levels()))})
	}
	choices := source.Intn(3) * 3
	heights := []int{}
	height := 0
	for place := 0; place < length || height > 0; place++ {
		down := place >= length || height > 0 && source.Intn(4) == 0
		operation := operationFor(source, height, choices, down)
		c.text = append(c.text, operation, c.operandFor(source, operation))
		heights = append(heights, height)
		height += pushesOf[operation] - popsOf[operation]
	}
	c.aim(source, append(heights, 0))
	return c
}

// aim sets the places to go to: more often forward than back, so that most have a way to the end.
func (c code) aim(source *rand.Rand, heights []int) {
	for place := 0; place < c.end(); place++ {
		operation, _ := c.at(place)
		if operation != api.Jump && operation != api.Zero {
			continue
		}
		fitting := []int{place + 1}
		for to := 0; to <= c.end(); to++ {
			if heights[to] == heights[place+1] && (to > place || source.Intn(3) == 0) {
				fitting = append(fitting, to)
			}
		}
		c.text[2*place+1] = byte(fitting[source.Intn(len(fitting))])
	}
}

// mend gives another level to the instruction that broke a rule.
func (c *code) mend(source *rand.Rand, place int) {
	operation, operand := c.at(place)
	level := byte(source.Intn(c.levels()))
	if operation != api.Store {
		c.text[2*place+1] = level
		return
	}
	vars := []byte(c.vars)
	vars[operand] = level
	c.vars = string(vars)
}

// spoil puts another instruction at a place.
func (c code) spoil(source *rand.Rand) {
	place := source.Intn(c.end())
	operation := byte(source.Intn(12))
	c.text[2*place] = operation
	c.text[2*place+1] = c.operandFor(source, operation)
}

// Each file is mended fault by fault, so that some are let through by a hair; then it is spoiled.
func TestP5RandomFilesByWords(t *testing.T) {
	source := rand.New(rand.NewSource(5))
	tables := []string{"1", pair, "1011", diamond, chain6, broad6, pentagon, pair, diamond}
	seen := map[api.Errno]int{}
	for round := 0; round < 5000; round++ {
		c := randomCode(source, tables, 1+source.Intn(30))
		for tries := 0; tries < 20; tries++ {
			at, errno := checkByWords(t, c)
			seen[errno]++
			if errno != api.ErrFlow {
				break
			}
			c.mend(source, at)
		}
		c.spoil(source)
		_, errno := checkByWords(t, c)
		seen[errno]++
	}
	for _, errno := range []api.Errno{api.OK, api.ErrLoop, api.ErrStack, api.ErrFlow} {
		if seen[errno] < 1000 {
			t.Errorf("only %d files with the answer %d", seen[errno], errno)
		}
	}
}

func TestP5LongFilesByWords(t *testing.T) {
	source := rand.New(rand.NewSource(6))
	for round := 0; round < 60; round++ {
		c := randomCode(source, []string{pair, diamond, chain6}, 100+source.Intn(90))
		for tries := 0; tries < 8 && c.end() <= api.MaxCode; tries++ {
			at, errno := checkByWords(t, c)
			for mended := 0; mended < 10 && errno == api.ErrFlow; mended++ {
				c.mend(source, at)
				at, errno = sluice.Check(fileOf(c.table, c.vars, c.text...))
			}
		}
	}
}

// All files of few instructions, of two levels and one variable.
func TestP5AllShortFilesByWords(t *testing.T) {
	for length := 1; length <= 4; length++ {
		choices := [][]byte{{api.Push, 1}, {api.Store, 0}, {api.In, 0}, {api.In, 1}, {api.Out, 0}, {api.Out, 1}}
		if length < 4 {
			choices = append(choices, []byte{api.Load, 0}, []byte{api.Sub, 0})
		}
		for place := 0; place <= length; place++ {
			choices = append(choices, []byte{api.Jump, byte(place)}, []byte{api.Zero, byte(place)})
		}
		texts := [][]byte{{}}
		for place := 0; place < length; place++ {
			longer := [][]byte{}
			for _, text := range texts {
				for _, choice := range choices {
					longer = append(longer, append(text[:len(text):len(text)], choice...))
				}
			}
			texts = longer
		}
		for _, text := range texts {
			checkByWords(t, code{table: pair, vars: "\x00", text: text})
		}
	}
}
