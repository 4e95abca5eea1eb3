package thunk

import (
	"strings"
	"testing"

	"thunk/api"
)

type answer struct {
	source string
	errno  api.Errno
	place  int
}

func holdCheck(t *testing.T, answers []answer) {
	t.Helper()
	for _, c := range answers {
		if errno, place := Check(c.source); errno != c.errno || place != c.place {
			t.Errorf("P2: Check(%q) = %d, %d, want %d, %d", c.source, errno, place, c.errno, c.place)
		}
	}
}

// at marks the place of a fault by a # in the source.
func at(errno api.Errno, marked string) answer {
	place := strings.Index(marked, "#")
	return answer{marked[:place] + marked[place+1:], errno, place}
}

func text(marked string) answer { return at(api.ErrText, marked) }

func name(marked string) answer { return at(api.ErrName, marked) }

func right(source string) answer { return answer{source, api.OK, 0} }

func TestCheckLength(t *testing.T) {
	filled := func(text string, length int) string { return text + strings.Repeat(" ", length-len(text)) }
	holdCheck(t, []answer{
		{filled("main = 1;", 600), api.OK, 0},
		{filled("main = 1;", 601), api.ErrLong, 0},
		{filled("main = 1", 600), api.ErrText, 600},
		{filled("main = 1", 601), api.ErrLong, 0},
		{filled("main = x;", 600), api.ErrName, 7},
		{filled("main = x;", 601), api.ErrLong, 0},
		{filled("f = 1;", 600), api.ErrMain, 600},
		{filled("f = 1;", 601), api.ErrLong, 0},
		{filled("", 600), api.ErrMain, 600},
		{strings.Repeat("é", 300), api.ErrText, 0},
		{strings.Repeat("é", 301), api.ErrLong, 0},
		{strings.Repeat("x", 600), api.ErrText, 600},
		{strings.Repeat("x", 100000), api.ErrLong, 0},
	})
}

func TestCheckRightPrograms(t *testing.T) {
	holdCheck(t, []answer{
		right("main = 1;"),
		right("\n main\n=1 ; "),
		right("main = 1 + 2 * 3 - 4 / 5 == 6;"),
		right("main = (((1)));"),
		right("f x y = y x; main = f 1 {2,3} (f 4);"),
		right(`main = (\x y z. x) 1;`),
		right("main = let rec x = y; y = x in x;"),
		right("main = case {1,2} 3 4 of <1> a b -> a;"),
		right("main = 999999999 + 000000000;"),
		right("main = {1,0} {99,9} {000000099,000000009};"),
		right("main = case 1 of <1> -> 2; <99> -> 3; <1> -> 4;"),
		right("main = letx; letx = 1;"),
		right("main = let1 recin; let1 x = x; recin = 1;"),
	})
}

func TestCheckTextOfTokens(t *testing.T) {
	holdCheck(t, []answer{
		text("#!"),
		text("#Main = 1;"),
		text("main = 1#\t;"),
		text("main = 1;#\r\n"),
		text("main = 1; #\xff"),
		text("main = #é;"),
		text("ma#éin = 1;"),
		text("main = #0000000001;"),
		text("main = {#0000000001,1};"),
		text("main = 1 #1234567890;"),
		text("main#== 1;"),
		text("main = 1 #= = 2;"),
		text("main = 1 -#- 2;"),
		text("main = 1 #-> 2;"),
		text("main = case 1 of <1> #- > 1;"),
		text("main = let #in = 1 in 2;"),
		text("main = \\#of. 1;"),
		text("main = 2#let;"),
		text("#rec = 1;"),
		text("f #case = 1;"),
		text("main = case 1 of <1> #in -> 1;"),
	})
}

func TestCheckTextOfLines(t *testing.T) {
	holdCheck(t, []answer{
		text("#1 = 2;"),
		text("#= 1;"),
		text("#;"),
		text("main #;"),
		text("main x #1 = 2;"),
		text("main #(x) = 2;"),
		text("main = #= 1;"),
		text("main = 1 #= 1;"),
		text("main = 1;#;"),
		text("main = 1; #2;"),
		text("main = 1; f #;"),
		text("main = 1; #<1> -> 2;"),
	})
}

func TestCheckTextAtTheEnd(t *testing.T) {
	holdCheck(t, []answer{
		text("main#"),
		text("main \n #"),
		text("main = 1; f#"),
		text("main = (case 1 of <1> -> 1; #"),
		text("main = case 1 of <1> -> 1; <#"),
		text("main = let x = 1; #"),
	})
	source := ""
	for _, token := range strings.Fields(`main = let rec f = \ x y . case x + { 1 , 2 } of < 1 > a -> ( a * 2 ) < 3 ; < 2 > -> f in f 1 == 2`) {
		source += token
		holdCheck(t, []answer{{source, api.ErrText, len(source)}})
		source += " "
		holdCheck(t, []answer{{source, api.ErrText, len(source)}})
	}
}

func TestCheckTextOfExpressions(t *testing.T) {
	holdCheck(t, []answer{
		text("main = #;"),
		text("main = #+ 1;"),
		text("main = 1 + #* 2;"),
		text("main = 1 * #;"),
		text("main = (#);"),
		text("main = (1#;"),
		text("main = 1 #);"),
		text("main = (1 #, 2);"),
		text("main = 1 < 2 #< 3;"),
		text("main = 1 < 2 #== 3;"),
		text("main = 1 == 2 #== 3;"),
		text("main = 1 #> 2;"),
		text("main = 1 + #let x = 1 in x;"),
		text("main = 1 * #case 1 of <1> -> 2;"),
		text("main = 1 == #\\x. x;"),
		text("main = main #\\x. x;"),
		text("main = main #let x = 1 in x;"),
		text("main = \\#. 1;"),
		text("main = \\x #;"),
		text("main = \\x #(y). 1;"),
		text("main = \\x #\\y. 1;"),
		text("main = \\x.#;"),
		text("main = 1#. 2;"),
		text("main = let #1 = 2 in 3;"),
		text("main = let x #y = 2 in 3;"),
		text("main = let x = 1 #of 2;"),
		text("main = let rec #rec x = 1 in x;"),
		text("main = let x = 1 in #in 2;"),
		text("main = case #of <1> -> 2;"),
		text("main = case 1 of #1 -> 2;"),
		text("main = case 1 of <1 #2> -> 2;"),
		text("main = case 1 of <1> a #+ b -> 2;"),
		text("main = case 1 of <1> a #(b) -> 2;"),
		text("main = case 1 of <1> #<2> -> 2;"),
		text("main = case 1 <1#> -> 2;"),
	})
}

func TestCheckTextOfBoundedNumbers(t *testing.T) {
	holdCheck(t, []answer{
		text("main = {#0,1};"),
		text("main = {#000,1};"),
		right("main = {1,0};"),
		right("main = {99,0};"),
		text("main = {#100,0};"),
		text("main = {#999999999,0};"),
		right("main = {1,9};"),
		text("main = {1,#10};"),
		text("main = {1,#999999999};"),
		text("main = {#100"),
		text("main = {1,#10"),
		text("main = {#x,1};"),
		text("main = {1,#x};"),
		text("main = {1#};"),
		text("main = {1 #1};"),
		text("main = {1,2#,3};"),
		text("main = {#};"),
		text("main = case 1 of <#0> -> 1;"),
		right("main = case 1 of <01> -> 1;"),
		right("main = case 1 of <99> -> 1;"),
		text("main = case 1 of <#100> -> 1;"),
		text("main = case 1 of <1> -> 1; <#100> -> 1;"),
		text("main = case 1 of <#x> -> 1;"),
		text("main = case 1 of <#> -> 1;"),
	})
}

func TestCheckTextOfSemicolons(t *testing.T) {
	holdCheck(t, []answer{
		right("main = let x = case 1 of <1> -> 2; <2> -> 3; y = 4 in y;"),
		right("main = let x = let z = 1; w = 2 in z; y = 4 in y;"),
		right("main = case 1 of <1> -> let x = 1; y = 2 in x; <2> -> 3;"),
		right("main = case 1 of <1> -> \\x. 1; <2> -> 3; f = 1;"),
		right("main = let x = 1 in case 2 of <1> -> 1; <2> -> 2; f = 1;"),
		right("main = (let x = case 1 of <1> -> 1; y = 2 in x);"),
		right("main = case case 1 of <1> -> 1; <2> -> 2 of <1> -> 3; <2> -> 4;"),
		text("main = (1#; y = 2);"),
		text("main = (1#; <1> -> 2);"),
		text("main = case 1 of <1> -> (1#; <2> -> 3);"),
		text("main = let x = (1#; y = 2) in x;"),
		text("main = (let x = 1 in x#; y = 2);"),
		text("main = (\\x. x#; y = 2);"),
		text("main = (case 1 of <1> -> 1; #y = 2);"),
		text("main = (case 1 of <1> -> 1; #;"),
		text("main = (case 1 of <1> -> 1; #!"),
		text("main = (case 1 of <1> -> case 2 of <2> -> 3; #);"),
		text("main = (let x = 1 in case 1 of <1> -> 1; #y = 2);"),
		text("main = case 1#; <1> -> 2;"),
		text("main = case case 1 of <1> -> 2; #y of <1> -> 1;"),
		text("main = let x = case 1#; y = 2 in x;"),
		text("main = let x = case case 1 of <1> -> 2; #y = 2 in x;"),
		text("main = let x = case 1 of <1> -> 2; #2 in x;"),
		text("main = let x = 1; #<1> -> 2 in x;"),
		text("main = case 1 of <1> -> let x = 1; #<2> -> 3;"),
		text("main = let x = 1 in x; y = 2 #in y;"),
		text("main = let x = 1;#; y = 2 in x;"),
		text("main = let x = 1; #in x;"),
		text("main = let x = 1; #rec y = 2 in x;"),
		text("main = case 1 of <1> -> 2;#; <2> -> 3;"),
		text("main = case 1 of <1> -> 2; #of <2> -> 3;"),
	})
}

func TestCheckNames(t *testing.T) {
	holdCheck(t, []answer{
		name("main = #x;"),
		name("main = 2#x;"),
		name("f = 1; main = 1; #f = 2;"),
		name("main = 1; #main x = 2;"),
		name("f x y #x = 1;"),
		name("f x #x x = 1;"),
		right("f f = f; main = f 1;"),
		right("f main = main; main = f 1;"),
		right("main = g 1; g x = main;"),
		name("g x = 1; main = #x;"),
		name("main = \\x #x. x;"),
		right("main = \\x. \\x. x;"),
		right("f x = \\x. x; main = \\f. f;"),
		name("main = (\\x. x) #x;"),
		name("main = case 1 of <1> a #a -> 1;"),
		right("main = case 1 of <1> a -> a; <2> a -> a;"),
		name("main = case 1 of <1> a -> 1; <2> -> #a;"),
		name("main = case #a of <1> a -> 1;"),
		right("f x = case x of <1> x -> x; main = 1;"),
		name("main = let x = 1; #x = 2 in x;"),
		name("main = let rec x = 1; y = 2; #x = y in x;"),
		right("main = let x = 1 in let x = x in x;"),
		name("main = let x = #x in x;"),
		right("main = let rec x = x in x;"),
		name("main = let y = 1; z = #y in z;"),
		name("main = let y = #z; z = 1 in y;"),
		right("main = let rec y = z; z = y in y;"),
		right("x = 1; main = let x = x in x;"),
		name("main = (let x = 1 in x) #x;"),
		name("main = 1 + (2 * #y) == 3;"),
		name("main = 1 < #y;"),
		name("main = 1 (2 #y);"),
	})
}

func TestCheckFirstName(t *testing.T) {
	holdCheck(t, []answer{
		name("main = #x y;"),
		name("f x #x = q; f = 1;"),
		name("f = #q; f = 1;"),
		name("f = 1; #f x x = q;"),
		name("f x = g; g z = #q; main main = r;"),
		name("main = let x = #q; x = 1 in r;"),
		name("main = let x = 1; #x = q in r;"),
		name("main = let rec x = #q; x = 1 in r;"),
		name("main = let x = 1 in x + #r; f = q;"),
		name("main = case #q of <1> a a -> r;"),
		name("main = case 1 of <1> a #a -> r;"),
		name("main = case 1 of <1> a -> #r; <2> b b -> 1;"),
		name("main = \\x #x. q;"),
		name("main = #q (\\x x. r);"),
		name("main = #q + r;"),
	})
}

func TestCheckMain(t *testing.T) {
	holdCheck(t, []answer{
		{"", api.ErrMain, 0},
		{" \n", api.ErrMain, 2},
		{"f = 1;", api.ErrMain, 6},
		{"f = 1; \n", api.ErrMain, 8},
		{"main x = 1;", api.ErrMain, 11},
		{"f = 1; main x y = 1; ", api.ErrMain, 21},
		{"f main = main;", api.ErrMain, 14},
		{"main2 = 1;", api.ErrMain, 10},
		{"f = let main = 1 in main;", api.ErrMain, 25},
	})
}

func TestCheckFirstError(t *testing.T) {
	holdCheck(t, []answer{
		text("main = x#"),
		text("f = x; f = y; #!"),
		text("main x = 1; f = 1 #)"),
		name("main x = #y;"),
		name("f = #main;"),
		name("f = 1; #f = 2;"),
	})
}
