package sluice_test

import (
	"math/rand"
	"strings"
	"testing"

	"sluice/api"
	"sluice/sluice"
)

// rules is the form of a source as the document has it, a capital for each name.
// Of the bytes, n is the first digit, l a level, v a new variable, x one of the
// variables, o an operator, 0 the first digit of a number, 9 a further one; all
// others stand for themselves.
var rules = map[byte][]string{
	'S': {"nP.V.T"},
	'P': {"llP", ""},
	'V': {"vlV", ""},
	'T': {"AT", ""},
	'A': {"x=E;", ">lE;", "?EBO", "@EB"},
	'O': {"", ":B"},
	'B': {"{T}"},
	'E': {"UR"},
	'R': {"oUR", ""},
	'U': {"0M", "x", "$l", "(E)"},
	'M': {"9M", ""},
}

// hopes is a text so far: all rows of names and bytes by which it may go on to a source.
type hopes struct {
	rows   map[string]bool
	levels int
	vars   string
	number int
}

// unfold replaces the names that the rows begin with by all that they may be.
func (h *hopes) unfold() map[string]bool {
	unfolded := map[string]bool{}
	var unfoldOne func(row string)
	unfoldOne = func(row string) {
		if row == "" || rules[row[0]] == nil {
			unfolded[row] = true
			return
		}
		for _, form := range rules[row[0]] {
			unfoldOne(form + row[1:])
		}
	}
	for row := range h.rows {
		unfoldOne(row)
	}
	return unfolded
}

// fits tells whether a byte may be what stands for it in a row.
func (h *hopes) fits(sign byte, next byte) bool {
	digit := int(next) - '0'
	isDigit := digit >= 0 && digit <= 9
	switch sign {
	case 'n':
		return digit >= 1 && digit <= 6
	case 'l':
		return digit >= 0 && digit < h.levels
	case 'v':
		return next >= 'a' && next <= 'h' && strings.IndexByte(h.vars, next) < 0
	case 'x':
		return strings.IndexByte(h.vars, next) >= 0
	case 'o':
		return strings.IndexByte("+-*<~", next) >= 0
	case '0':
		return isDigit
	case '9':
		return isDigit && h.number*10+digit <= 255
	}
	return sign == next
}

// note keeps what later bytes hang on.
func (h *hopes) note(sign byte, next byte) {
	switch sign {
	case 'n':
		h.levels = int(next) - '0'
	case 'v':
		h.vars += string([]byte{next})
	case '0':
		h.number = int(next) - '0'
	case '9':
		h.number = h.number*10 + int(next) - '0'
	}
}

// goOn reads a byte. Where it cannot stand it answers the error.
func (h *hopes) goOn(next byte) api.Errno {
	rows := map[string]bool{}
	signs := map[byte]bool{}
	letter := false
	for row := range h.unfold() {
		switch {
		case next == ' ' || next == '\n':
			if row == "" || row[0] != '9' {
				rows[row] = true
			}
		case row == "":
		case h.fits(row[0], next):
			rows[row[1:]] = true
			signs[row[0]] = true
		default:
			letter = letter || row[0] == 'v' || row[0] == 'x'
		}
	}
	if len(rows) == 0 && letter && next >= 'a' && next <= 'h' {
		return api.ErrName
	}
	if len(rows) == 0 {
		return api.ErrSyntax
	}
	h.rows = rows
	for sign := range signs {
		h.note(sign, next)
	}
	return api.OK
}

// readByForm tells whether a text is a source: the place and the error, if not.
func readByForm(text string) (int, api.Errno) {
	h := hopes{rows: map[string]bool{"S": true}}
	for at := 0; at < len(text); at++ {
		if errno := h.goOn(text[at]); errno != api.OK {
			return at, errno
		}
	}
	if !h.unfold()[""] {
		return len(text), api.ErrSyntax
	}
	return 0, api.OK
}

// checkForm holds both calls to the form: an error of it and its place, or none of it.
func checkForm(t *testing.T, text string) api.Errno {
	t.Helper()
	wantAt, want := readByForm(text)
	file, at, errno := sluice.Translate(text)
	compiled, atCompiled, errnoCompiled := sluice.Compile(text)
	if want == api.OK {
		formal := errno == api.ErrSyntax || errno == api.ErrName || errno == api.ErrLong
		if formal || at != 0 || errno == api.OK && file == "" {
			t.Errorf("P9: Translate(%q) = %q, %d, %d, but it is a source", text, file, at, errno)
		}
		if errno != api.OK && (errnoCompiled != errno || atCompiled != 0) {
			t.Errorf("P10: Compile(%q): %d, %d, Translate %d", text, atCompiled, errnoCompiled, errno)
		}
		return want
	}
	if file != "" || at != wantAt || errno != want {
		t.Errorf("P9: Translate(%q) = %q, %d, %d, want %d, %d", text, file, at, errno, wantAt, want)
	}
	if compiled != "" || atCompiled != wantAt || errnoCompiled != want {
		t.Errorf("P10: Compile(%q) = %q, %d, %d, want %d, %d", text, compiled, atCompiled, errnoCompiled, wantAt, want)
	}
	return want
}

// allTexts are all of up to so many of the bytes.
func allTexts(bytes string, length int) []string {
	texts := []string{""}
	for from := 0; length > 0; length-- {
		until := len(texts)
		for _, text := range texts[from:until] {
			for i := range len(bytes) {
				texts = append(texts, text+bytes[i:i+1])
			}
		}
		from = until
	}
	return texts
}

// What may stand behind each beginning, and what not.
func TestP9AllShortTextsByForm(t *testing.T) {
	signs := "0126ab. =;>?@:{}$()+5"
	for _, begin := range []string{
		"", "1", "2", "2 0", "2.", "2.a", "2.a1", "2.a1.", "2.a1.a", "2.a1.a=", "2.a1.a=a", "2.a1.a=2", "2.a1.a=25", "2.a1.a=$", "2.a1.a=$1", "2.a1.a=(",
		"2.a1.a=(a", "2.a1.a=((a)", "2.a1.a=a+", "2.a1.>", "2.a1.>1", "2.a1.?", "2.a1.?a", "2.a1.?a{", "2.a1.?a{}", "2.a1.?a{}:", "2.a1.?a{}:{", "2.a1.?a{}:{}",
		"2.a1.@", "2.a1.@a", "2.a1.@a{", "2.a1.@a{}", "2.a1.@a{?a{", "2.a1.@a{?a{}", "2.a1.?a{?a{}:{@1{}", "2.a1.?a{a=1;", "2.a1.a=1;",
	} {
		for _, text := range allTexts(signs, 2) {
			checkForm(t, begin+text)
		}
		for next := 0; next < 256; next++ {
			checkForm(t, begin+string([]byte{byte(next)}))
			checkForm(t, begin+" "+string([]byte{byte(next)}))
		}
	}
	for _, text := range allTexts("12.a0=;>{?", 5) {
		checkForm(t, text)
	}
	for _, text := range allTexts("1a={}:;(+", 4) {
		checkForm(t, "1.a0."+text)
		checkForm(t, "1.a0.?a"+text)
		checkForm(t, "1.a0.@(a"+text)
	}
}

// spoiled changes, drops or adds some bytes of a text, or cuts it off.
func spoiled(source *rand.Rand, text string) string {
	signs := "0123456789abcdefghi. \n=;>?@:{}$()+-*<~\t\x00A"
	for changes := source.Intn(3); changes >= 0; changes-- {
		at := source.Intn(len(text) + 1)
		sign := source.Intn(len(signs))
		switch kind := source.Intn(5); {
		case kind == 0 || at == len(text):
			text = text[:at] + signs[sign:sign+1] + text[at:]
		case kind == 1:
			text = text[:at] + text[at+1:]
		case kind == 2 && source.Intn(3) == 0:
			text = text[:at]
		default:
			text = text[:at] + signs[sign:sign+1] + text[at+1:]
		}
	}
	return text
}

// misspelt puts another letter in the place of one.
func misspelt(source *rand.Rand, text string) string {
	at := strings.IndexAny(text, "abcdefgh")
	for source.Intn(3) > 0 && at >= 0 {
		next := strings.IndexAny(text[at+1:], "abcdefgh")
		if next < 0 {
			break
		}
		at += 1 + next
	}
	if at < 0 {
		return text
	}
	letter := source.Intn(9)
	return text[:at] + "abcdefghi"[letter:letter+1] + text[at+1:]
}

func TestP9SpoiledSourcesByForm(t *testing.T) {
	source := rand.New(rand.NewSource(21))
	seen := map[api.Errno]int{}
	for round := 0; round < 20000; round++ {
		text := randomTree(source).text(source)
		if len(text) > 250 {
			continue
		}
		if want := checkForm(t, text); want != api.OK {
			t.Errorf("P8: %q: no source: %d", text, want)
		}
		seen[checkForm(t, spoiled(source, text))]++
		seen[checkForm(t, misspelt(source, text))]++
	}
	for _, errno := range []api.Errno{api.OK, api.ErrSyntax, api.ErrName} {
		if seen[errno] < 1000 {
			t.Errorf("only %d spoiled sources with the answer %d", seen[errno], errno)
		}
	}
}

func TestP9RandomTextsByForm(t *testing.T) {
	source := rand.New(rand.NewSource(22))
	signs := "0123abc. =;>?@:{}$()+"
	for round := 0; round < 40000; round++ {
		text := make([]byte, source.Intn(40))
		for i := range text {
			text[i] = signs[source.Intn(len(signs))]
			if source.Intn(30) == 0 {
				text[i] = byte(source.Intn(256))
			}
		}
		checkForm(t, string(text))
		checkForm(t, "3 01 12.a0b2."+string(text))
	}
}
