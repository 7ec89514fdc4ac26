package sluice_test

import (
	"fmt"
	"math/rand"
	"strings"
	"testing"

	"sluice/api"
	"sluice/sluice"
)

// checkCompile holds Compile to an error and its place, or to the file of
// Translate; and Check of that file to the same error.
func checkCompile(t *testing.T, source string, wantAt int, want api.Errno) {
	t.Helper()
	translated, place, errno := sluice.Translate(source)
	if translated == "" || place != 0 || errno != api.OK {
		t.Errorf("P9: Translate(%q) = %q, %d, %d", source, translated, place, errno)
	}
	file, at, errno := sluice.Compile(source)
	wantFile := translated
	if want != api.OK {
		wantFile = ""
	}
	if file != wantFile || at != wantAt || errno != want {
		t.Errorf("P10: Compile(%q) = %q, %d, %d, want %q, %d, %d", source, file, at, errno, wantFile, wantAt, want)
	}
	if _, checked := sluice.Check(translated); checked != want {
		t.Errorf("P10: Compile(%q) is to say %d, Check of its translation says %d", source, want, checked)
	}
}

func TestP10Examples(t *testing.T) {
	checkCompile(t, "2 01.a1.a=$0;", 0, api.OK)
	checkCompile(t, "2 01.a0.a=$1;", 8, api.ErrFlow)
	checkCompile(t, "2 01.a0 b1.?b{a=1;}", 14, api.ErrFlow)
	checkCompile(t, "2 01.a0 b1.@b{b=b-1;}>0 7;", 0, api.OK)
	checkCompile(t, "2 01.b1.@b+$0{}", 8, api.ErrFlow)
}

// headOf writes what stands ahead of the statements: the pairs of a table, and variables a, b, ...
func headOf(table string, levels ...int) string {
	c := code{table: table}
	head := fmt.Sprint(c.levels())
	for _, one := range pairsOf(rand.New(rand.NewSource(1)), table) {
		head += fmt.Sprint(one[0]) + fmt.Sprint(one[1])
	}
	head += "."
	for i, level := range levels {
		head += "abcdefgh"[i:i+1] + fmt.Sprint(level)
	}
	return head + "."
}

// topOf tells the level that all are at or below.
func topOf(c code) int {
	for top := 0; ; top++ {
		all := true
		for level := 0; level < c.levels(); level++ {
			all = all && c.below(level, top)
		}
		if all {
			return top
		}
	}
}

var tablesOfRules = []string{"1", pair, "1011", diamond, pentagon, chain6, broad6}

// Every rule for every pair of levels: a is of the level x, b of the level y, c of
// the top. Where # stands is the statement that is kept just if x is at or below y.
func TestP10RulesOfPairs(t *testing.T) {
	for _, table := range tablesOfRules {
		c := code{table: table}
		top := topOf(c)
		for x := 0; x < c.levels(); x++ {
			for y := 0; y < c.levels(); y++ {
				for _, form := range []string{
					"#b=a;", "#b=$x;", "#>ya;", "#>y$x;", "#b=(1+a);", "#b=a*b;", "#b=b<$x;", "#b=1-(2~(b+a));", "#>y 1+b+$x;", "b=1;#b=a;b=a;",
					"?a{#b=1;}", "?a{}:{#b=1;}", "?a{c=1;}:{c=2;#>y 1;}", "?$x{#b=1;}", "?$x{#>y 1;}", "@a{#b=1;}", "@a{#>y b;}", "@$x{#b=b;}", "@$x{c=1;#>y 1;}",
					"?1{#b=a;}", "@1{#b=a;}", "?1{}:{#>ya;}", "?a{?1{#b=1;}}", "?a{@1{#b=1;}}", "@a{?1{}:{#b=1;}}", "?1{?a{#b=1;}}", "@1{@a{#>y 1;}}",
					"?a{#c=$y;}", "?a{#>t$y;}", "?a{#?$y{}}", "?a{#@$y{}}", "@a{#c=$y;}", "@a{#>t 1+$y;}", "@a{#?$y{}:{}}", "@a{#@$y{}}", "?a{}:{#c=1+($y);}",
					"#@a+$y{}", "#@$y+a{}", "#@(1-($y*a)){c=1;}", "?1{#@a+$y{}}", "@1{#@$y+$y+a{}}",
				} {
					text := headOf(table, x, y, top) + strings.NewReplacer("x", fmt.Sprint(x), "y", fmt.Sprint(y), "t", fmt.Sprint(top)).Replace(form)
					at := strings.Index(text, "#")
					text = strings.Replace(text, "#", "", 1)
					if c.below(x, y) {
						checkCompile(t, text, 0, api.OK)
					} else {
						checkCompile(t, text, at, api.ErrFlow)
					}
				}
			}
		}
	}
}

// What no rule asks, of all pairs of levels.
func TestP10WhatIsFree(t *testing.T) {
	for _, table := range tablesOfRules {
		c := code{table: table}
		top := topOf(c)
		for x := 0; x < c.levels(); x++ {
			for y := 0; y < c.levels(); y++ {
				for _, form := range []string{
					"", "c=a+b+$x+$y;", ">t a*b;", "b=1;a=2;", ">x 1;>y 2;", "b=$y;a=$x;b=$y;", "?a{}b=1;", "@a{}b=1;", "?a{}:{}>y 1;", "?a{c=1;}b=$y;", "@$x{}?$y{}",
					"?a+b{}", "?$x+$y{}", "?a+$y{}", "@a+b{}", "@a{}@b{}", "@$x{}@$y{}", "?a{?b{c=1;}}", "@a{@b{}}", "?a{?b{}@b{}?c{}@c{}}", "?a{@a{a=a;>x a;}}", "?$x{a=$x;}",
					"c=$x+$y;", "c=a+$y;", ">t a+$y;",
				} {
					text := strings.NewReplacer("x", fmt.Sprint(x), "y", fmt.Sprint(y), "t", fmt.Sprint(top)).Replace(form)
					checkCompile(t, headOf(table, x, y, top)+text, 0, api.OK)
				}
				want, at := api.OK, 0
				if x != y {
					want, at = api.ErrFlow, len(headOf(table))
				}
				checkCompile(t, headOf(table)+fmt.Sprintf("@$%d+$%d{}", x, y), at, want)
			}
		}
	}
}

// Two levels join: what is at or below a third just if both are.
func TestP10RulesOfThree(t *testing.T) {
	for _, table := range tablesOfRules {
		c := code{table: table}
		for number := 0; number < c.levels()*c.levels()*c.levels(); number++ {
			x, y, z := number/c.levels()/c.levels(), number/c.levels()%c.levels(), number%c.levels()
			for _, form := range []string{
				"#c=a+b;", "#>za-b;", "#c=$x+b;", "?a{#c=b;}", "?a{#>z b;}", "@b{#c=a;}", "?a+b{#c=1;}", "@a*b{#>z 1;}", "?a{?b{#c=1;}}", "?b{@a{#c=1;}}", "@a{?1{}:{@b{#>z 1;}}}", "?a{?b{#?$z{}}}", "@a{?b{#@$z{}}}",
				"?a{#@b+$z{}}", "?a+b{#?$z+1{}}", "@b{}?b{}?a{?c{}?b{}:{#c=1;}}",
			} {
				text := headOf(table, x, y, z) + strings.NewReplacer("x", fmt.Sprint(x), "z", fmt.Sprint(z)).Replace(form)
				at := strings.Index(text, "#")
				text = strings.Replace(text, "#", "", 1)
				if c.below(x, z) && c.below(y, z) {
					checkCompile(t, text, 0, api.OK)
				} else {
					checkCompile(t, text, at, api.ErrFlow)
				}
			}
		}
	}
}

// The first statement in the text that breaks a rule; a is open, b is secret.
func TestP10FirstStatement(t *testing.T) {
	for _, form := range []string{
		"#a=b;a=b;", "b=a;#a=b;a=b;", "a=1;b=2;#>0b;", "\n #a=b;", "?1{}  #a=b;", "?1{a=1;}#a=b;", "?b{#a=1;a=2;}", "?b{b=1;\n#a=1;}a=b;", "?b{}:{#a=1;}a=b;", "?b{#a=1;}:{a=1;}", "?a{#a=b;}",
		"#@b+$0{a=1;}", "#@b+$0{}a=b;", "?b{#?$0{a=1;}}", "?b{#@$0{a=1;}a=2;}", "?b{#b=$0;a=1;}", "@b{#a=1;}", "@b{?a{#a=1;}}", "@b{b=1;?a{b=1;}:{b=1;#a=1;}}", "@a{@a{?a{#>0b;}}}",
		"#a=$1;a=b;", "#>0$1+$0;", "#>0 1+(2*(3+$1));", "?$1{#b=$0;}", "?b{?b{#b=$1+$0;}}", "@$1{@$1{#@$1+$0{}}}", "@$1{}@$0{}#@$1+$0{}", "@b{}#a=b;", "?b{?1{}#a=1;}", "?b{@1{}#>0 1;}",
	} {
		text := "2 01.a0 b1." + form
		at := strings.Index(text, "#")
		checkCompile(t, strings.Replace(text, "#", "", 1), at, api.ErrFlow)
	}
}

// Eight values on the stack, and nine: to the right they pile up, to the left they do not.
func TestP10Stack(t *testing.T) {
	right := func(count int, term string) string {
		return strings.Repeat(term+"-(", count-1) + term + strings.Repeat(")", count-1)
	}
	left := func(count int) string { return strings.Repeat("(", count-1) + "1" + strings.Repeat("+1)", count-1) }
	for count := 1; count <= 15; count++ {
		want := api.OK
		if count > 8 {
			want = api.ErrStack
		}
		for _, term := range []string{"1", "a", "$0", "(1)"} {
			for _, form := range []string{"a=%s;", ">0 %s;", "?%s{}", "@%s{}", "?1{a=%s;}", "?1{}:{@%s{}}", "@1{?1{>1%s;}}", "a=1;a=(%s);"} {
				checkCompile(t, "2 01.a0 b1."+fmt.Sprintf(form, right(count, term)), 0, want)
			}
		}
		checkCompile(t, "1..>0 "+left(count)+";", 0, api.OK)
		checkCompile(t, "1..>0 1"+strings.Repeat("+1", 6*count)+";", 0, api.OK)
		checkCompile(t, "1..>0 "+left(count)+"+("+right(7, "1")+");", 0, api.OK)
		checkCompile(t, "1..>0 "+left(count)+"+("+right(8, "1")+");", 0, api.ErrStack)
		checkCompile(t, "1..>0 "+right(8, "1")+"+"+left(count)+";", 0, api.OK)
	}
	// Statement by statement the stack is empty again.
	checkCompile(t, "1..>0 "+right(8, "1")+";@"+right(8, "1")+"{>0 "+right(8, "1")+";}?"+right(8, "1")+"{}:{}>0 "+right(8, "1")+";", 0, api.OK)
	checkCompile(t, "2 01.b1.>0b;>0 "+right(9, "1")+";", 0, api.ErrStack)
	checkCompile(t, "2 01.b1.>0 "+right(9, "b")+";", 0, api.ErrStack)
	checkCompile(t, "2 01.b1.>0 "+right(8, "b")+";", 8, api.ErrFlow)
}

// The bottom is the lowest level, not the number 0.
func TestP10Bottom(t *testing.T) {
	checkCompile(t, "2 10.a0 b1.b=1;>1 2;?1{b=3;>1 4;}@0{b=$1;}", 0, api.OK)
	checkCompile(t, "2 10.a0 b1.?a{b=1;}", 14, api.ErrFlow)
	checkCompile(t, "2 10.a0 b1.?b{a=1;}", 0, api.OK)
	checkCompile(t, "3 20 01.a0 b1 c2.c=1;@1{c=$2;?c{a=1;b=c;}}", 0, api.OK)
	checkCompile(t, "3 20 01.a0 b1 c2.c=1;@1{c=$2;?a{b=1;a=c;c=1;}}", 40, api.ErrFlow)
}

// Compiled and run: what each form means.
func TestP8Meaning(t *testing.T) {
	for _, c := range []struct {
		source string
		tapes  api.Tapes
		fuel   int
		want   api.Result
	}{
		{"1..", api.Tapes{"x"}, 0, ended(0, "")},
		{"1.a0.a=7;", api.Tapes{}, 9, ended(2, "\x07")},
		{"1.a0h0.h=7;a=h+1;", api.Tapes{}, 9, ended(6, "\x08\x07")},
		{"1..>0 250+10;", api.Tapes{}, 9, ended(4, "", "\x04")},
		{"1..>0 3-5;", api.Tapes{}, 9, ended(4, "", "\xfe")},
		{"1..>0 16*17;", api.Tapes{}, 9, ended(4, "", "\x10")},
		{"1..>0 3<5;>0 5<3;>0 5<5;", api.Tapes{}, 99, ended(12, "", "\x01\x00\x00")},
		{"1..>0 3~5;>0 5~5;", api.Tapes{}, 99, ended(8, "", "\x00\x01")},
		{"1..>0 10-2-3;>0 10-(2-3);", api.Tapes{}, 99, ended(12, "", "\x05\x0b")},
		{"1..>0 2+3*4;>0 2+(3*4);", api.Tapes{}, 99, ended(12, "", "\x14\x0e")},
		{"1..>0 1<2~1;>0 9-1<9;", api.Tapes{}, 99, ended(12, "", "\x01\x01")},
		{"1..>0$0-$0;", api.Tapes{"\x09\x04"}, 9, ended(4, "", "\x05")},
		{"1..>0$0-($0-$0);", api.Tapes{"\x09\x04\x03"}, 9, ended(6, "", "\x08")},
		{"1..>0$0;>0$0;>0$0;", api.Tapes{"ab"}, 9, ended(6, "", "ab\x00")},
		{"2 01..>1$0;>1$1;>0$0;", api.Tapes{"ab", "xy"}, 9, ended(6, "", "b", "ax")},
		{"1..?0{>0 1;}>0 2;", api.Tapes{}, 9, ended(4, "", "\x02")},
		{"1..?3{>0 1;}>0 2;", api.Tapes{}, 9, ended(6, "", "\x01\x02")},
		{"1..?0{>0 1;}:{>0 3;}>0 2;", api.Tapes{}, 9, ended(6, "", "\x03\x02")},
		{"1..?255{>0 1;}:{>0 3;}>0 2;", api.Tapes{}, 9, ended(7, "", "\x01\x02")},
		{"1..?1{?0{>0 1;}:{>0 2;}}:{>0 3;}", api.Tapes{}, 9, ended(7, "", "\x02")},
		{"1.a0.a=3;@a{>0a;a=a-1;}", api.Tapes{}, 99, ended(31, "\x00", "\x03\x02\x01")},
		{"1..@0{>0 1;}>0 2;", api.Tapes{}, 9, ended(4, "", "\x02")},
		{"1..@$0{>0$0;}", api.Tapes{"\x01a\x01b\x00c"}, 99, ended(12, "", "ab")},
		{"1.a0b0.a=2;@a{b=2;@b{>0 a*10+b;b=b-1;}a=a-1;}", api.Tapes{}, 999, ended(78, "\x00\x00", "\x16\x15\x0c\x0b")},
		{"1..@1{}", api.Tapes{}, 20000, spent(20000, "")},
		{"1..>0 1;@1{>0 2;}", api.Tapes{}, 12, spent(12, "", "\x01\x02\x02")},
	} {
		file, at, errno := sluice.Compile(c.source)
		if at != 0 || errno != api.OK {
			t.Errorf("P10: Compile(%q): %d, %d", c.source, at, errno)
			continue
		}
		checkRun(t, c.source, file, c.tapes, c.fuel, c.want)
	}
}
