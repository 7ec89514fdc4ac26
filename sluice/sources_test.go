package sluice_test

import (
	"math/rand"
	"testing"

	"sluice/api"
	"sluice/sluice"
)

// pairsOf tells the pairs of a table, in any order, at times with some that follow left out.
func pairsOf(source *rand.Rand, table string) [][2]int {
	c := code{table: table}
	pairs := [][2]int{}
	for a := 0; a < c.levels(); a++ {
		for b := 0; b < c.levels(); b++ {
			if a != b && c.below(a, b) || a == b && source.Intn(9) == 0 {
				pairs = append(pairs, [2]int{a, b})
			}
		}
	}
	source.Shuffle(len(pairs), func(i, j int) { pairs[i], pairs[j] = pairs[j], pairs[i] })
	for i := 0; i < len(pairs); i++ {
		fewer := append(append([][2]int{}, pairs[:i]...), pairs[i+1:]...)
		if (tree{levels: c.levels(), pairs: fewer}).table() == table && source.Intn(3) > 0 {
			pairs = fewer
			i--
		}
	}
	return pairs
}

var latticesOfTrees = []string{"1", pair, pair, "1011", diamond, diamond, chain6, broad6, pentagon}

// randomTree draws a source; its order is a lattice, but for a few.
func randomTree(source *rand.Rand) tree {
	table := latticesOfTrees[source.Intn(len(latticesOfTrees))]
	s := tree{levels: code{table: table}.levels(), pairs: pairsOf(source, table)}
	if source.Intn(20) == 0 {
		s.pairs = nil
		for count := source.Intn(9); count > 0; count-- {
			s.pairs = append(s.pairs, [2]int{source.Intn(s.levels), source.Intn(s.levels)})
		}
	}
	for _, letter := range source.Perm(8)[:source.Intn(9)] {
		s.vars += string([]byte{"abcdefgh"[letter]})
		s.rank = append(s.rank, source.Intn(s.levels))
	}
	s.body = s.randomList(source, 3, 1+source.Intn(7))
	return s
}

func (s tree) randomList(source *rand.Rand, depth int, count int) []*stmt {
	list := []*stmt{}
	for ; count > 0; count-- {
		one := &stmt{sign: "==>>?@"[source.Intn(6)], target: source.Intn(s.levels)}
		if depth == 0 || one.sign == '=' && s.vars == "" {
			one.sign = '>'
		}
		if one.sign == '=' {
			one.target = source.Intn(len(s.vars))
		}
		one.value = s.randomExpr(source, source.Intn(4))
		if one.sign == '?' || one.sign == '@' {
			one.first = s.randomList(source, depth-1, source.Intn(4))
		}
		if one.sign == '?' && source.Intn(2) == 0 {
			one.two = true
			one.second = s.randomList(source, depth-1, source.Intn(3))
		}
		list = append(list, one)
	}
	return list
}

func (s tree) randomExpr(source *rand.Rand, depth int) *expr {
	if depth > 0 && source.Intn(3) > 0 {
		return &expr{sign: "+-*<~"[source.Intn(5)], left: s.randomExpr(source, depth-1), right: s.randomExpr(source, depth-1)}
	}
	switch kind := source.Intn(4); {
	case kind == 0:
		return &expr{sign: '$', value: source.Intn(s.levels)}
	case kind < 3 && s.vars != "":
		return &expr{sign: 'x', value: source.Intn(len(s.vars))}
	}
	return &expr{sign: '0', value: []int{0, 1, 2, 255, source.Intn(256)}[source.Intn(5)]}
}

// mend changes what breaks a rule, so that it may do so no longer.
func (s tree) mend(source *rand.Rand, one *stmt) {
	if source.Intn(2) == 0 && one.sign == '>' {
		one.target = source.Intn(s.levels)
		return
	}
	if source.Intn(2) == 0 && one.sign == '=' {
		s.rank[one.target] = source.Intn(s.levels)
		return
	}
	one.value = s.randomExpr(source, source.Intn(2))
	if source.Intn(3) == 0 {
		one.sign = '?'
	}
}

// wantOf tells what Translate must answer to a source of that text.
func (s tree) wantOf(text string) (string, api.Errno) {
	if len(text) > 300 {
		return "", api.ErrLong
	}
	c := s.code()
	if _, errno := sluice.Levels(c.table); errno != api.OK {
		return "", errno
	}
	if c.end() > 200 {
		return "", api.ErrBig
	}
	return fileOf(c.table, c.vars, c.text...), api.OK
}

// checkTree holds both calls and Check to what the words of the document come
// to: the statement that breaks a rule, if one does, and the error.
func checkTree(t *testing.T, s tree, text string) (*stmt, api.Errno) {
	t.Helper()
	want, wantErrno := s.wantOf(text)
	file, at, errno := sluice.Translate(text)
	if file != want || at != 0 || errno != wantErrno {
		t.Errorf("P9: Translate(%q) = %q, %d, %d, want %q, %d", text, file, at, errno, want, wantErrno)
	}
	compiled, atCompiled, errnoCompiled := sluice.Compile(text)
	if wantErrno != api.OK {
		if compiled != "" || atCompiled != 0 || errnoCompiled != wantErrno {
			t.Errorf("P10: Compile(%q) = %q, %d, %d, want %d", text, compiled, atCompiled, errnoCompiled, wantErrno)
		}
		return nil, wantErrno
	}
	leak, judged := s.judge()
	wantAt := 0
	if leak != nil {
		wantAt = leak.at
	}
	if judged != api.OK {
		want = ""
	}
	if compiled != want || atCompiled != wantAt || errnoCompiled != judged {
		t.Errorf("P10: Compile(%q) = %q, %d, %d, want %q, %d, %d", text, compiled, atCompiled, errnoCompiled, want, wantAt, judged)
	}
	if _, checked := sluice.Check(file); checked != errnoCompiled {
		t.Errorf("P10: Compile(%q) says %d, Check of its translation %d", text, errnoCompiled, checked)
	}
	return leak, judged
}

// soundTree draws a source and mends it fault by fault, until it is let through; false, if it is not.
func soundTree(t *testing.T, source *rand.Rand, seen map[api.Errno]int) (tree, string, bool) {
	s := randomTree(source)
	for tries := 0; tries < 40; tries++ {
		text := s.text(source)
		leak, errno := checkTree(t, s, text)
		seen[errno]++
		if errno != api.ErrFlow {
			return s, text, errno == api.OK
		}
		s.mend(source, leak)
	}
	return s, "", false
}

func TestP10RandomSourcesByWords(t *testing.T) {
	source := rand.New(rand.NewSource(31))
	seen := map[api.Errno]int{}
	for round := 0; round < 8000; round++ {
		s, _, _ := soundTree(t, source, seen)
		_, errno := checkTree(t, s, s.text(nil))
		seen[errno]++
	}
	for _, errno := range []api.Errno{api.OK, api.ErrFlow, api.ErrLong, api.ErrOrder, api.ErrLattice} {
		if seen[errno] < 100 {
			t.Errorf("only %d sources with the answer %d", seen[errno], errno)
		}
	}
}

// Long expressions, so that the bounds of the code and of the stack are met and passed.
func TestP10RandomExpressionsByWords(t *testing.T) {
	source := rand.New(rand.NewSource(32))
	seen := map[api.Errno]int{}
	needs := [20]int{}
	for round := 0; round < 6000; round++ {
		s := tree{levels: 2, pairs: [][2]int{{0, 1}}, vars: "ha", rank: []int{1, 0}}
		var value *expr
		for count := []int{15, 95 + source.Intn(12)}[source.Intn(2)]; count > 0; count-- {
			one := &expr{sign: "0x"[source.Intn(2)], value: source.Intn(2)}
			switch {
			case value == nil:
				value = one
			case source.Intn(2) == 0 && value.need() < 11:
				value = &expr{sign: "+-*<~"[source.Intn(5)], left: one, right: value}
			default:
				value = &expr{sign: "+-*<~"[source.Intn(5)], left: value, right: one}
			}
		}
		s.body = []*stmt{{sign: '>', target: 1, value: value}}
		_, errno := checkTree(t, s, s.text(nil))
		seen[errno]++
		needs[value.need()]++
	}
	for _, errno := range []api.Errno{api.OK, api.ErrStack, api.ErrBig} {
		if seen[errno] < 200 {
			t.Errorf("only %d sources with the answer %d", seen[errno], errno)
		}
	}
	if needs[8] < 100 || needs[9] < 100 {
		t.Errorf("only %d expressions of 8 values, %d of 9", needs[8], needs[9])
	}
}

// What is compiled and run does what the source means, and gives nothing away.
func TestP8RandomMeanings(t *testing.T) {
	source := rand.New(rand.NewSource(33))
	ends := [3]int{}
	seen := map[api.Errno]int{}
	for round := 0; round < 5000; round++ {
		s, text, ok := soundTree(t, source, seen)
		if !ok {
			continue
		}
		file, _, errno := sluice.Compile(text)
		if errno != api.OK {
			t.Errorf("P10: %q: %d", text, errno)
			continue
		}
		c := s.code()
		level := source.Intn(s.levels)
		tapes := c.randomTapes(source, level)
		for _, fuel := range []int{source.Intn(40), 500} {
			want := s.run(tapes[0], fuel)
			ends[want.End]++
			checkRun(t, text, file, tapes[0], fuel, want)
			checkSecret(t, c, level, tapes, [2]int{fuel, source.Intn(500)})
		}
	}
	if ends[1] < 3000 || ends[2] < 1000 {
		t.Errorf("only %d runs came to the end, and %d did not", ends[1], ends[2])
	}
}
