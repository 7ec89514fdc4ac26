package sluice_test

import (
	"fmt"
	"strings"
	"testing"

	"sluice/api"
	"sluice/sluice"
)

// checkFile holds both calls to a file.
func checkFile(t *testing.T, source string, want string) {
	t.Helper()
	if file, at, errno := sluice.Translate(source); file != want || at != 0 || errno != api.OK {
		t.Errorf("P9: Translate(%q) = %q, %d, %d, want %q", source, file, at, errno, want)
	}
	if file, at, errno := sluice.Compile(source); file != want || at != 0 || errno != api.OK {
		t.Errorf("P10: Compile(%q) = %q, %d, %d, want %q", source, file, at, errno, want)
	}
}

// checkNoFile holds both calls to an error, its place, and nothing beside them.
func checkNoFile(t *testing.T, source string, wantAt int, want api.Errno) {
	t.Helper()
	if file, at, errno := sluice.Translate(source); file != "" || at != wantAt || errno != want {
		t.Errorf("P9: Translate(%.60q) = %q, %d, %d, want %d, %d", source, file, at, errno, wantAt, want)
	}
	if file, at, errno := sluice.Compile(source); file != "" || at != wantAt || errno != want {
		t.Errorf("P10: Compile(%.60q) = %q, %d, %d, want %d, %d", source, file, at, errno, wantAt, want)
	}
}

func TestP9Examples(t *testing.T) {
	checkFile(t, "2 01.a1.a=$0;", "S\x02"+"1101"+"\x01\x01\x02"+"\x0a\x00\x02\x00")
	checkNoFile(t, "2 01.a0.b=1;", 8, api.ErrName)
	checkNoFile(t, "2 01.a0 a0.", 8, api.ErrName)
	checkNoFile(t, "2 02.", 3, api.ErrSyntax)
	checkNoFile(t, "1..>0 256;", 8, api.ErrSyntax)
	checkNoFile(t, "1.", 2, api.ErrSyntax)
	checkNoFile(t, "", 0, api.ErrSyntax)
	checkNoFile(t, "2..", 0, api.ErrLattice)
	checkNoFile(t, "2 01 10..", 0, api.ErrOrder)
}

// Every form of statement, expression and term, with two variables of the one level: b is 0, a is 1.
func TestP9Code(t *testing.T) {
	for _, c := range []struct {
		text string
		code []byte
	}{
		{"", nil},
		{"a=0;", []byte{push, 0, store, 1}},
		{"b=a;", []byte{load, 1, store, 0}},
		{"a=$0;", []byte{in, 0, store, 1}},
		{"a=(b);", []byte{load, 0, store, 1}},
		{"a=((($0)));", []byte{in, 0, store, 1}},
		{">0 a;", []byte{load, 1, out, 0}},
		{">0$0;", []byte{in, 0, out, 0}},
		{">0(1);", []byte{push, 1, out, 0}},
		{">012;", []byte{push, 12, out, 0}},
		{">000;", []byte{push, 0, out, 0}},
		{"a=1+2;", []byte{push, 1, push, 2, add, 0, store, 1}},
		{"a=1-2;", []byte{push, 1, push, 2, sub, 0, store, 1}},
		{"a=1*2;", []byte{push, 1, push, 2, mul, 0, store, 1}},
		{"a=1<2;", []byte{push, 1, push, 2, less, 0, store, 1}},
		{"a=1~2;", []byte{push, 1, push, 2, same, 0, store, 1}},
		{"a=1+2*3;", []byte{push, 1, push, 2, add, 0, push, 3, mul, 0, store, 1}},
		{"a=1*2+3;", []byte{push, 1, push, 2, mul, 0, push, 3, add, 0, store, 1}},
		{"a=1-2-3;", []byte{push, 1, push, 2, sub, 0, push, 3, sub, 0, store, 1}},
		{"a=1-(2-3);", []byte{push, 1, push, 2, push, 3, sub, 0, sub, 0, store, 1}},
		{"a=(1-2)-3;", []byte{push, 1, push, 2, sub, 0, push, 3, sub, 0, store, 1}},
		{"a=1~2<3-(4+a)*b;", []byte{push, 1, push, 2, same, 0, push, 3, less, 0, push, 4, load, 1, add, 0, sub, 0, load, 0, mul, 0, store, 1}},
		{"a=1;b=2;>0 3;", []byte{push, 1, store, 1, push, 2, store, 0, push, 3, out, 0}},
		{"?a{}", []byte{load, 1, zero, 2}},
		{"?a{b=1;}", []byte{load, 1, zero, 4, push, 1, store, 0}},
		{"?a{b=1;a=2;}>0 3;", []byte{load, 1, zero, 6, push, 1, store, 0, push, 2, store, 1, push, 3, out, 0}},
		{"?a{}:{}", []byte{load, 1, zero, 3, jump, 3}},
		{"?a{b=1;}:{}", []byte{load, 1, zero, 5, push, 1, store, 0, jump, 5}},
		{"?a{}:{b=1;}", []byte{load, 1, zero, 3, jump, 5, push, 1, store, 0}},
		{"?a{b=1;}:{b=2;}>0 3;", []byte{load, 1, zero, 5, push, 1, store, 0, jump, 7, push, 2, store, 0, push, 3, out, 0}},
		{"@a{}", []byte{load, 1, zero, 3, jump, 0}},
		{"b=9;@a-1{a=b;}>0 3;", []byte{push, 9, store, 0, load, 1, push, 1, sub, 0, zero, 9, load, 0, store, 1, jump, 2, push, 3, out, 0}},
		{"?1{?2{}}", []byte{push, 1, zero, 4, push, 2, zero, 4}},
		{"?1{?2{}:{}}", []byte{push, 1, zero, 5, push, 2, zero, 5, jump, 5}},
		{"?1{?2{}}:{?3{}}", []byte{push, 1, zero, 5, push, 2, zero, 4, jump, 7, push, 3, zero, 7}},
		{"@1{@2{}}", []byte{push, 1, zero, 6, push, 2, zero, 5, jump, 2, jump, 0}},
		{"@1{?2{>0 3;}:{@4{}}}>0 5;", []byte{push, 1, zero, 11, push, 2, zero, 7, push, 3, out, 0, jump, 10, push, 4, zero, 10, jump, 7, jump, 0, push, 5, out, 0}},
		{"?1{@2{}@3{}}", []byte{push, 1, zero, 8, push, 2, zero, 5, jump, 2, push, 3, zero, 8, jump, 5}},
	} {
		checkFile(t, "1.b0a0."+c.text, fileOf("1", "\x00\x00", c.code...))
	}
}

// As many blocks within blocks, and brackets within brackets, as there is room for.
func TestP9DeepBlocks(t *testing.T) {
	choices, loops := []byte{}, []byte{}
	for depth := 0; depth < 66; depth++ {
		choices = append(choices, push, 1, zero, 132)
		loops = append(loops, push, 1, zero, byte(198-depth))
	}
	for depth := 65; depth >= 0; depth-- {
		loops = append(loops, jump, byte(2*depth))
	}
	checkFile(t, "1.."+strings.Repeat("?1{", 66)+strings.Repeat("}", 66), fileOf("1", "", choices...))
	checkFile(t, "1.."+strings.Repeat("@1{", 66)+strings.Repeat("}", 66), fileOf("1", "", loops...))
	brackets := "1..>0" + strings.Repeat("(", 146) + "7" + strings.Repeat(")", 146)
	checkFile(t, brackets+";", fileOf("1", "", push, 7, out, 0))
	checkNoFile(t, brackets, 298, api.ErrSyntax)
	checkNoFile(t, brackets+")", 298, api.ErrSyntax)
	checkNoFile(t, "1..>0"+strings.Repeat("(", 295), 300, api.ErrSyntax)
	checkNoFile(t, "1.."+strings.Repeat("?1{", 99), 300, api.ErrSyntax)
	checkNoFile(t, "1.."+strings.Repeat("@1{", 60)+strings.Repeat("}", 61), 243, api.ErrSyntax)
}

// Each token of a source that has them all, with what may stand ahead of it and behind the last.
var tokens = strings.Fields("3 0 1 1 2 . a 0 h 2 . a = 255 ; h = a + $ 1 ; > 2 ( h - 10 ) * a < 7 ~ 0 ; ? $ 0 { a = 1 ; } : { @ a { a = a - 1 ; } } ? h { }")

func TestP8Blanks(t *testing.T) {
	want, _, errno := sluice.Translate(strings.Join(tokens, ""))
	if errno != api.OK || len(want) != 15+2*30 {
		t.Fatalf("P9: %d, %d bytes", errno, len(want))
	}
	for _, blanks := range []string{" ", "\n", "\n ", " \n"} {
		checkFile(t, blanks+strings.Join(tokens, blanks)+blanks, want)
	}
	for gap := 0; gap <= len(tokens); gap++ {
		ahead, behind := strings.Join(tokens[:gap], ""), strings.Join(tokens[gap:], "")
		for _, blank := range []string{" ", "\n", "   ", "\n\n", " \n \n"} {
			checkFile(t, ahead+blank+behind, want)
		}
		for other := 0; other < 33; other++ {
			if other != ' ' && other != '\n' {
				checkNoFile(t, ahead+string([]byte{byte(other)})+behind, len(ahead), api.ErrSyntax)
				checkNoFile(t, ahead+" "+string([]byte{byte(other)})+behind, len(ahead)+1, api.ErrSyntax)
			}
		}
		for _, other := range []string{"\x7f", "\x80", "\xa0", "\xff", "\u00a0", "#", "/", "i", "z", "A"} {
			checkNoFile(t, ahead+other+behind, len(ahead), api.ErrSyntax)
		}
	}
	for _, source := range []string{"1..>0 2 5;", "1..>0 25\n5;", "1..>0 0 0;"} {
		checkNoFile(t, source, strings.LastIndexAny(source, " \n")+1, api.ErrSyntax)
	}
}

// A source that is cut off ends early, but where what is there is a source already.
func TestP9EveryBeginning(t *testing.T) {
	whole := strings.Join(tokens, " ")
	for length := 0; length < len(whole); length++ {
		begin := whole[:length]
		open := strings.Count(begin, "{") - strings.Count(begin, "}")
		statements := strings.TrimRight(begin, " ")
		if strings.Count(begin, ".") == 2 && open == 0 && strings.ContainsAny(statements[len(statements)-1:], ".;}") {
			if _, at, errno := sluice.Translate(begin); at != 0 || errno != api.OK {
				t.Errorf("P9: Translate(%q) = %d, %d", begin, at, errno)
			}
			continue
		}
		checkNoFile(t, begin, length, api.ErrSyntax)
	}
}

// 300 bytes and 301.
func TestP9Long(t *testing.T) {
	for _, source := range []string{"1..", "2 01.a1.a=$0;", "1..?1{>0 2;}"} {
		want, _, _ := sluice.Translate(source)
		pad := strings.Repeat(" ", 300-len(source))
		checkFile(t, source+pad, want)
		checkFile(t, pad+source, want)
		checkNoFile(t, source+pad+" ", 0, api.ErrLong)
		checkNoFile(t, " "+pad+source, 0, api.ErrLong)
		checkNoFile(t, source+pad[1:]+"x", 299, api.ErrSyntax)
		checkNoFile(t, source+pad[1:]+"h", 299, api.ErrName)
		checkNoFile(t, source+pad+"x", 0, api.ErrLong)
	}
	checkNoFile(t, strings.Repeat(" ", 300), 300, api.ErrSyntax)
	checkNoFile(t, strings.Repeat("\x00", 301), 0, api.ErrLong)
	checkNoFile(t, strings.Repeat("2 01 10..x", 31), 0, api.ErrLong)
	checkFile(t, "1..>0 "+strings.Repeat("0", 293)+";", fileOf("1", "", push, 0, out, 0))
	checkFile(t, "1..>0 "+strings.Repeat("0", 290)+"255;", fileOf("1", "", push, 255, out, 0))
	checkNoFile(t, "1..>0 "+strings.Repeat("0", 290)+"256;", 298, api.ErrSyntax)
}

// Sources of just so many instructions: pairs of terms and operators, and what is added at the end.
func TestP9Big(t *testing.T) {
	sum := func(terms int) string { return "1..>0 1" + strings.Repeat("+1", terms-1) + ";" }
	added := func(terms int, more ...byte) string {
		text := append([]byte{push, 1}, repeat(terms-1, push, 1, add, 0)...)
		return fileOf("1", "", append(append(text, out, 0), more...)...)
	}
	checkFile(t, sum(100), added(100))
	checkFile(t, sum(99)+"?1{}", added(99, push, 1, zero, 200))
	checkFile(t, sum(97)+"@1{?1{}:{}}", added(97, push, 1, zero, 200, push, 1, zero, 199, jump, 199, jump, 194))
	checkFile(t, sum(98)+"@1{}", added(98, push, 1, zero, 199, jump, 196))
	checkFile(t, sum(97)+"@1{}?1{}:{}", added(97, push, 1, zero, 197, jump, 194, push, 1, zero, 200, jump, 200))
	checkNoFile(t, sum(99)+"@1{}", 0, api.ErrBig)
	checkNoFile(t, sum(99)+"?1{}:{}", 0, api.ErrBig)
	checkNoFile(t, "1..@1{"+sum(99)[3:]+"}", 0, api.ErrBig)
	checkNoFile(t, sum(101), 0, api.ErrBig)
	checkNoFile(t, sum(128), 0, api.ErrBig) // 256 instructions: as a byte, none
	checkNoFile(t, sum(146), 0, api.ErrBig)
	checkNoFile(t, "1.."+strings.Repeat("@1{}", 67), 0, api.ErrBig)
	checkNoFile(t, "1.."+strings.Repeat("@1{}", 74), 0, api.ErrBig)
}

func TestP9Numbers(t *testing.T) {
	for value := 0; value < 1000; value++ {
		source := fmt.Sprintf("1..>0 %d;", value)
		long := fmt.Sprintf("1..>0 1-%09d;", value)
		if value > 255 {
			checkNoFile(t, source, 8, api.ErrSyntax)
			checkNoFile(t, long, 16, api.ErrSyntax)
			checkNoFile(t, source[:8]+"x", 8, api.ErrSyntax)
			continue
		}
		checkFile(t, source, fileOf("1", "", push, byte(value), out, 0))
		checkFile(t, long, fileOf("1", "", push, 1, push, byte(value), sub, 0, out, 0))
	}
	checkNoFile(t, "1..>0 2550;", 9, api.ErrSyntax)
	checkNoFile(t, "1..>0 1000;", 9, api.ErrSyntax)
	checkNoFile(t, "1..>0 99999999999999999999999;", 8, api.ErrSyntax)
	checkNoFile(t, "1..>0 256", 8, api.ErrSyntax)
	checkNoFile(t, "1..>0 0x1;", 7, api.ErrSyntax)
	checkNoFile(t, "1..>0 -1;", 6, api.ErrSyntax)
	checkNoFile(t, "1..>0 +1;", 6, api.ErrSyntax)
}

// chainOf writes the pairs of levels in a row, each below the next.
func chainOf(levels int) string {
	pairs := fmt.Sprint(levels, " ")
	for low := levels - 2; low >= 0; low-- {
		pairs += fmt.Sprint(low) + fmt.Sprint(low+1)
	}
	return pairs
}

// Wherever a level stands: every byte, of 1 to 6 levels.
func TestP9Levels(t *testing.T) {
	for levels := 1; levels <= 6; levels++ {
		table := ""
		for low := range levels {
			table += strings.Repeat("0", low) + strings.Repeat("1", levels-low)
		}
		for next := 0; next < 256; next++ {
			if next == ' ' || next == '\n' {
				continue
			}
			level, sign := byte(next-'0'), string([]byte{byte(next)})
			for _, c := range []struct {
				ahead, behind, file string
			}{
				{chainOf(levels) + ".a", ".", fileOf(table, string([]byte{level}))},
				{chainOf(levels) + "..>", " 1;", fileOf(table, "", push, 1, out, level)},
				{chainOf(levels) + "..?$", "{}", fileOf(table, "", in, level, zero, 2)},
			} {
				if next >= '0' && next < '0'+levels {
					checkFile(t, c.ahead+sign+c.behind, c.file)
				} else {
					checkNoFile(t, c.ahead+sign+c.behind, len(c.ahead), api.ErrSyntax)
				}
			}
			pairs := chainOf(levels)
			if next >= '0' && next < '0'+levels {
				checkFile(t, pairs+sign+sign+"..", fileOf(table, ""))
				continue
			}
			checkNoFile(t, pairs+"0"+sign+"..", len(pairs)+1, api.ErrSyntax)
			if sign != "." {
				checkNoFile(t, pairs+sign+"0..", len(pairs), api.ErrSyntax)
			}
		}
	}
}

func TestP9FirstDigit(t *testing.T) {
	for next := 0; next < 256; next++ {
		sign := string([]byte{byte(next)})
		switch {
		case next == '1':
			checkFile(t, sign+"..", fileOf("1", ""))
		case next >= '2' && next <= '6':
			checkNoFile(t, sign+"..", 0, api.ErrLattice)
		case next == ' ' || next == '\n':
			checkNoFile(t, sign+"..", 1, api.ErrSyntax)
		default:
			checkNoFile(t, sign+"..", 0, api.ErrSyntax)
			checkNoFile(t, " \n"+sign+"1..", 2, api.ErrSyntax)
		}
	}
}

func TestP9Orders(t *testing.T) {
	for _, c := range []struct {
		pairs, table string
		errno        api.Errno
	}{
		{"1", "1", api.OK},
		{"1 00 00", "1", api.OK},
		{"2", "", api.ErrLattice},
		{"2 00 11", "", api.ErrLattice},
		{"2 01", pair, api.OK},
		{"2 01 01 00 11", pair, api.OK},
		{"2 10", "1011", api.OK},
		{"2 01 10", "", api.ErrOrder},
		{"3 01 12", "111011001", api.OK},
		{"3 12 01", "111011001", api.OK},
		{"3 01 12 02", "111011001", api.OK},
		{"3 01 12 20", "", api.ErrOrder},
		{"3 20 12 01", "", api.ErrOrder},
		{"3 01 10", "", api.ErrOrder},
		{"3 01 02", "", api.ErrLattice},
		{"3 02 12", "", api.ErrLattice},
		{"3 01", "", api.ErrLattice},
		{"4 01 02 13 23", diamond, api.OK},
		{"4 23 13 02 01", diamond, api.OK},
		{"4 01 23", "", api.ErrLattice},
		{"4 01 23 12 30", "", api.ErrOrder},
		{"4 02 03 12 13", "", api.ErrLattice},
		{"5 01 12 24 03 34", pentagon, api.OK},
		{"5 34 24 03 12 01", pentagon, api.OK},
		{"6 01 12 23 34 45", chain6, api.OK},
		{"6 45 34 23 12 01", chain6, api.OK},
		{"6 01 23 45 12 34", chain6, api.OK},
		{"6 23 01 45 34 12 05 50", "", api.ErrOrder},
		{"6 01 02 03 04 15 25 35 45", broad6, api.OK},
		{"6 40 41 02 03 12 13 25 35", "", api.ErrLattice},
		{"6 01 12 23 34 45 50", "", api.ErrOrder},
		{"6", "", api.ErrLattice},
	} {
		if c.errno == api.OK {
			checkFile(t, c.pairs+"..", fileOf(c.table, ""))
		} else {
			checkNoFile(t, c.pairs+"..", 0, c.errno)
		}
	}
}

// Every letter among the variables and elsewhere, and which variable it is.
func TestP9Letters(t *testing.T) {
	const letters = "abcdefgh"
	for i := range letters {
		turned := letters[i:] + letters[:i]
		vars := strings.Join(strings.Split(turned, ""), "0") + "0"
		for variable := range turned {
			letter := turned[variable : variable+1]
			number := byte(variable)
			zeros := strings.Repeat("\x00", 8)
			checkFile(t, "1."+vars+"."+letter+"="+letter+";", fileOf("1", zeros, load, number, store, number))
			checkNoFile(t, "1."+vars+letter+"0.", 18, api.ErrName)
			without := strings.Replace(vars, letter+"0", "", 1)
			checkNoFile(t, "1."+without+"."+letter+"=1;", 17, api.ErrName)
			checkNoFile(t, "1."+without+".>0"+letter+";", 19, api.ErrName)
			checkNoFile(t, "1."+letter+"0"+vars+".", 2+2*(variable+1), api.ErrName)
		}
	}
	for next := 0; next < 256; next++ {
		if next < 'a' || next > 'h' {
			sign := string([]byte{byte(next)})
			if !strings.Contains(" \n.", sign) {
				checkNoFile(t, "1."+sign+"0.", 2, api.ErrSyntax)
				checkNoFile(t, "1.a0"+sign+"0.", 4, api.ErrSyntax)
			}
			if !strings.Contains(" \n>?@", sign) {
				checkNoFile(t, "1.a0."+sign+"=1;", 5, api.ErrSyntax)
			}
		}
	}
}

// A letter that is none of the variables is ErrName just where the form has a letter.
func TestP9NameOrSyntax(t *testing.T) {
	for _, c := range []struct {
		ahead string
		errno api.Errno
	}{
		{"", api.ErrSyntax}, {"2", api.ErrSyntax}, {"2 0", api.ErrSyntax}, {"2 01", api.ErrSyntax},
		{"2 01.a", api.ErrSyntax}, {"2 01.a1.", api.ErrName}, {"2 01..", api.ErrName}, {"2 01..\n ", api.ErrName},
		{"2 01.a1.a", api.ErrSyntax}, {"2 01.a1.a=", api.ErrName}, {"2 01.a1.a=a", api.ErrSyntax}, {"2 01.a1.a=12", api.ErrSyntax},
		{"2 01.a1.a=a+", api.ErrName}, {"2 01.a1.a=(", api.ErrName}, {"2 01.a1.a=(a", api.ErrSyntax}, {"2 01.a1.a=(a)", api.ErrSyntax},
		{"2 01.a1.a=$", api.ErrSyntax}, {"2 01.a1.a=$0", api.ErrSyntax}, {"2 01.a1.a=1;", api.ErrName},
		{"2 01.a1.>", api.ErrSyntax}, {"2 01.a1.>0", api.ErrName}, {"2 01.a1.>0 1", api.ErrSyntax}, {"2 01.a1.>0 1;", api.ErrName},
		{"2 01.a1.?", api.ErrName}, {"2 01.a1.?a", api.ErrSyntax}, {"2 01.a1.?a{", api.ErrName}, {"2 01.a1.?a{}", api.ErrName},
		{"2 01.a1.?a{}:", api.ErrSyntax}, {"2 01.a1.?a{}:{", api.ErrName}, {"2 01.a1.?a{}:{}", api.ErrName},
		{"2 01.a1.@", api.ErrName}, {"2 01.a1.@a", api.ErrSyntax}, {"2 01.a1.@a{", api.ErrName}, {"2 01.a1.@a{}", api.ErrName},
	} {
		checkNoFile(t, c.ahead+"b", len(c.ahead), c.errno)
		checkNoFile(t, c.ahead+"b=1;", len(c.ahead), c.errno)
		checkNoFile(t, c.ahead+" b", len(c.ahead)+1, c.errno)
		checkNoFile(t, c.ahead+"i", len(c.ahead), api.ErrSyntax)
		checkNoFile(t, c.ahead+"`", len(c.ahead), api.ErrSyntax)
	}
	checkNoFile(t, "2 01.a", 6, api.ErrSyntax)
	checkNoFile(t, "2 01.a1a", 7, api.ErrName)
	checkNoFile(t, "2 01.a1h0a", 9, api.ErrName)
}

func TestP9WrongForms(t *testing.T) {
	for _, c := range []struct {
		source string
		at     int
	}{
		{"1", 1}, {"1.", 2}, {".", 0}, {"..", 0}, {"1...", 3}, {"11..", 1}, {"2 1..", 3}, {"2 011..", 5}, {"2 0 .1..", 4},
		{"1.0.", 2}, {"1.a.", 3}, {"1.ab0.", 3}, {"1.a00.", 4}, {"1.a0,b0.", 4},
		{"1..;", 3}, {"1..{}", 3}, {"1..}", 3}, {"1..:", 3}, {"1..7;", 3}, {"1..$0;", 3}, {"1..(", 3}, {"1..=", 3}, {"1..1", 3}, {"1...", 3},
		{"1.a0.a;", 6}, {"1.a0.a==1;", 7}, {"1.a0.a=1;;", 9}, {"1.a0.a=1", 8}, {"1.a0.a=;", 7}, {"1.a0.a=a=a;", 8}, {"1.a0.=a;", 5}, {"1.a0.a=aa;", 8},
		{"1.a0.a=1+;", 9}, {"1.a0.a=+1;", 7}, {"1.a0.a=1++1;", 9}, {"1.a0.a=1 1;", 9}, {"1.a0.a=1a;", 8}, {"1.a0.a=a1;", 8}, {"1.a0.a=1>1;", 8},
		{"1.a0.a=();", 8}, {"1.a0.a=(1;", 9}, {"1.a0.a=(1};", 9}, {"1.a0.a=1);", 8}, {"1.a0.a=(1)(1);", 10}, {"1.a0.a=(1)1;", 10}, {"1.a0.a=1(1);", 8},
		{"1.a0.a=$;", 8}, {"1.a0.a=$a;", 8}, {"1.a0.a=$$0;", 8}, {"1.a0.a=$00;", 9}, {"1.a0.a=$(0);", 8}, {"1.a0.a=$0$0;", 9},
		{"1..>;", 4}, {"1..>0;", 5}, {"1..>$0;", 4}, {"1..>0=1;", 5}, {"1..>0 1", 7}, {"1..>(0)1;", 4},
		{"1..?{}", 4}, {"1..?1", 5}, {"1..?1;", 5}, {"1..?1:{}", 5}, {"1..?1{", 6}, {"1..?1{;}", 6}, {"1..?1{}}", 7}, {"1..?1{}:", 8}, {"1..?1{}::{}", 8},
		{"1..?1{}:>0 1;", 8}, {"1..?1{}:{}:{}", 10}, {"1..?1{}:{", 9}, {"1..?1{}{}", 7}, {"1..?1{};", 7}, {"1..?1{>0 1}", 10}, {"1..?1(>0 1;)", 5}, {"1..?1>0 1;", 5},
		{"1..@{}", 4}, {"1..@1", 5}, {"1..@1;", 5}, {"1..@1{", 6}, {"1..@1{}}", 7}, {"1..@1{}:{}", 7}, {"1..@1{};", 7}, {"1..@1{@1{}", 10}, {"1..@1{?1{}:{}", 13},
		{"1..@1{?1{}:{}:{}}", 13}, {"1..>0 1;x", 8}, {"1..>0 1;\x00", 8}, {"1..\x00", 3}, {"\x00", 0}, {"1\x00", 1}, {"1.\x00", 2}, {"S\x011\x00\x00", 0},
	} {
		checkNoFile(t, c.source, c.at, api.ErrSyntax)
	}
}

// Which error comes first, where several apply.
func TestP9FirstError(t *testing.T) {
	big := ">0 1" + strings.Repeat("+1", 110) + ";"
	deep := ">0 " + strings.Repeat("1+(", 8) + "1" + strings.Repeat(")", 8) + ";"
	checkNoFile(t, "2 01 10.a0.a=b;", 13, api.ErrName)
	checkNoFile(t, "2 01 10..x", 9, api.ErrSyntax)
	checkNoFile(t, "2..x", 3, api.ErrSyntax)
	checkNoFile(t, "2.."+big+"b", 3+len(big), api.ErrName)
	checkNoFile(t, "1.."+big+"}", 3+len(big), api.ErrSyntax)
	checkNoFile(t, "1.a0.b=1;a=;", 5, api.ErrName)
	checkNoFile(t, "1.a0.a=;b=1;", 7, api.ErrSyntax)
	checkNoFile(t, "3 01 10.."+big, 0, api.ErrOrder)
	checkNoFile(t, "3 01 02.."+big, 0, api.ErrLattice)
	checkNoFile(t, "3 01 10.."+deep, 0, api.ErrOrder)
	checkNoFile(t, "2.."+deep, 0, api.ErrLattice)
	checkNoFile(t, "2 01.b1.>0 b;"+big, 0, api.ErrBig)
	checkNoFile(t, "2 01.b1."+deep+big, 0, api.ErrBig)
	checkNoFile(t, "2.a0b1.a=b;", 0, api.ErrLattice)
	checkNoFile(t, "2 01 10.a0b1.a=b;", 0, api.ErrOrder)
	checkNoFile(t, "2 01.a0b1.a=b;c=a;", 14, api.ErrName)
	checkNoFile(t, "2 01.a0b1.a=b;c", 14, api.ErrName)
	checkNoFile(t, "2 01.a0b1.a=b;a", 15, api.ErrSyntax)
	checkNoFile(t, "2 01.a0."+deep+"a=1", 8+len(deep)+3, api.ErrSyntax)
}
