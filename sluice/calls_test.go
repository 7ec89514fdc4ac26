package sluice_test

import (
	"math/rand"
	"strings"
	"testing"
	"time"

	"sluice/api"
	"sluice/sluice"
)

// answers is what all calls say to one text and two numbers.
type answers struct {
	levels, join, meet, check, translated, compiled                           int
	info                                                                      api.Info
	result, longer                                                            api.Result
	file, checkedFile                                                         string
	eLevels, eJoin, eMeet, eScan, eCheck, eRun, eLonger, eTranslate, eCompile api.Errno
}

func askAll(text string, a int, b int) answers {
	s := answers{}
	s.levels, s.eLevels = sluice.Levels(text)
	s.join, s.eJoin = sluice.Join(text, a, b)
	s.meet, s.eMeet = sluice.Meet(text, a, b)
	s.info, s.eScan = sluice.Scan(text)
	s.check, s.eCheck = sluice.Check(text)
	s.result, s.eRun = sluice.Run(text, api.Tapes{text, "", text}, a)
	s.longer, s.eLonger = sluice.Run(text, api.Tapes{"\x00\x01", text, text, text}, 500)
	s.file, s.translated, s.eTranslate = sluice.Translate(text)
	s.checkedFile, s.compiled, s.eCompile = sluice.Compile(text)
	return s
}

// checkEmpty holds the answers to P1: beside an error there is nothing else.
func checkEmpty(t *testing.T, text string, s answers) {
	t.Helper()
	bad := s.eLevels != api.OK && s.levels != 0
	bad = bad || s.eJoin != api.OK && s.join != 0
	bad = bad || s.eMeet != api.OK && s.meet != 0
	bad = bad || s.eScan != api.OK && s.info != api.Info{}
	bad = bad || s.eRun != api.OK && s.result != api.Result{}
	bad = bad || s.eLonger != api.OK && s.longer != api.Result{} || s.eLonger != s.eCheck
	bad = bad || s.eCheck == api.OK && s.check != 0
	bad = bad || s.eTranslate != api.OK && s.file != "" || s.eTranslate == api.OK && s.translated != 0
	bad = bad || s.eCompile != api.OK && s.checkedFile != "" || s.eCompile == api.OK && s.compiled != 0
	if bad {
		t.Errorf("P1: %.60q: %+v", text, s)
	}
}

var numbers = []int{0, 1, 5, 6, -1, 255, 256, 20000, 20001, 1 << 32, 1<<63 - 1, -1 << 63}

// randomTexts are of any bytes, and of such as stand in tables and files.
func randomTexts(count int) []string {
	source := rand.New(rand.NewSource(1))
	bytesOf := []string{"01", "1", "\x00\x01\x02S", "01S\x00\x01\x02\x03\x04\x05\x06\x07\x08\x09\x0a\x0b\x0c", ""}
	texts := []string{}
	for len(texts) < count {
		length := source.Intn(60)
		if source.Intn(3) == 0 {
			side := source.Intn(8)
			length = side * side
		}
		choice := bytesOf[source.Intn(len(bytesOf))]
		text := make([]byte, length)
		for i := range text {
			text[i] = byte(source.Intn(256))
			if choice != "" {
				text[i] = choice[source.Intn(len(choice))]
			}
		}
		texts = append(texts, string(text))
	}
	return texts
}

// spoiledFiles are files with a few bytes changed.
func spoiledFiles(count int) []string {
	source := rand.New(rand.NewSource(2))
	whole := []string{
		fileOf(diamond, "\x00\x03", 0, 1, 2, 0, 10, 2, 9, 5, 8, 0, 11, 3),
		fileOf(chain6, "", 10, 5, 11, 5),
		fileOf(pair, "\x00\x01\x00\x01\x00\x01\x00\x01", 1, 7, 1, 0, 3, 0, 2, 7),
	}
	texts := []string{}
	for len(texts) < count {
		text := []byte(whole[source.Intn(len(whole))])
		for changes := source.Intn(4); changes >= 0; changes-- {
			text[source.Intn(len(text))] = byte(source.Intn(14))
		}
		texts = append(texts, string(text[:len(text)-source.Intn(2)]))
	}
	return texts
}

// spoiledSources are sources, some with a few bytes changed, some beyond the bounds.
func spoiledSources(count int) []string {
	source := rand.New(rand.NewSource(3))
	texts := []string{}
	for len(texts) < count {
		text := randomTree(source).text(source)
		if len(texts)%3 > 0 {
			text = spoiled(source, text)
		}
		texts = append(texts, text)
	}
	return texts
}

func TestP1AnyTexts(t *testing.T) {
	texts := append(randomTexts(20000), spoiledFiles(20000)...)
	texts = append(texts, spoiledSources(8000)...)
	for i, text := range texts {
		a := numbers[i%len(numbers)]
		b := numbers[i/len(numbers)%len(numbers)]
		checkEmpty(t, text, askAll(text, a, b))
	}
}

func TestP1AnyNumbers(t *testing.T) {
	for _, a := range numbers {
		for _, b := range numbers {
			want := api.OK
			if a < 0 || a > 5 || b < 0 || b > 5 {
				want = api.ErrNumber
			}
			s := askAll(chain6, a, b)
			checkEmpty(t, chain6, s)
			if s.eJoin != want || s.eMeet != want {
				t.Errorf("P1: %d, %d: errors %d, %d, want %d", a, b, s.eJoin, s.eMeet, want)
			}
		}
	}
}

// A call that walked through such texts would need hours for what takes no time by their length.
func TestP1LongTexts(t *testing.T) {
	const length = 1 << 26 // a square number, too
	table := strings.Repeat("1", length)
	file := "S\x011\x00\x00" + strings.Repeat("\x00", length)
	sources := []string{table, "1.." + strings.Repeat(" ", length), "1..>0 " + strings.Repeat("0", length)}
	start := time.Now()
	for i := 0; i < 20000; i++ {
		_, levels := sluice.Levels(table)
		_, join := sluice.Join(table, i, -i)
		_, meet := sluice.Meet(table, 0, 0)
		_, scan := sluice.Scan(file)
		at, check := sluice.Check(file)
		result, run := sluice.Run(file, api.Tapes{table, file}, i)
		if run != api.ErrLong || result != (api.Result{}) {
			t.Fatalf("P1: a long file is run: %+v, %d", result, run)
		}
		if levels != api.ErrTable || join != api.ErrTable || meet != api.ErrTable || scan != api.ErrLong || check != api.ErrLong || at != 0 {
			t.Fatalf("P1: long texts: %d, %d, %d, %d, %d, %d", levels, join, meet, scan, at, check)
		}
		for _, source := range sources {
			text, place, translated := sluice.Translate(source)
			compiled, placeCompiled, errno := sluice.Compile(source)
			if text+compiled != "" || place != 0 || placeCompiled != 0 || translated != api.ErrLong || errno != api.ErrLong {
				t.Fatalf("P1: a long source: %q, %q, %d, %d, %d, %d", text, compiled, place, placeCompiled, translated, errno)
			}
		}
		if time.Since(start) > 20*time.Second {
			t.Fatalf("P1: %d rounds took 20 seconds", i)
		}
	}
	checkEmpty(t, table, askAll(table, 0, 0))
	checkEmpty(t, file, askAll(file, 0, 0))
}

// The same questions in another order, with others between them, have the same answers.
func TestP2NothingIsKept(t *testing.T) {
	texts := append(randomTexts(2000), spoiledFiles(2000)...)
	texts = append(texts, spoiledSources(2000)...)
	texts = append(texts, "1", pair, "1011", "1001", "1111", diamond, chain6, broad6, pentagon, crossed)
	texts = append(texts, fileOf("1", ""), fileOf(pair, "\x01", 0, 1, 2, 0), fileOf(diamond, ""))
	source := rand.New(rand.NewSource(8))
	for round := 0; round < 1000; round++ {
		c := randomCode(source, []string{pair, diamond}, 20)
		texts = append(texts, fileOf(c.table, c.vars, c.text...))
	}
	first := []answers{}
	for _, text := range texts {
		first = append(first, askAll(text, 0, 1))
	}
	for i := len(texts) - 1; i >= 0; i-- {
		askAll(texts[i*7%len(texts)], 1, 0)
		again := askAll(strings.Clone(texts[i]), 0, 1)
		if again != first[i] {
			t.Errorf("P2: %.60q: %+v, then %+v", texts[i], first[i], again)
		}
	}
}
