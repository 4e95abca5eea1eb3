package thunk

import (
	"math"
	"math/rand"
	"strconv"
	"strings"
	"testing"

	"thunk/api"
)

func number(n int64) api.Outcome { return api.Outcome{Kind: api.Number, N: n} }

func data(tag, arity int) api.Outcome { return api.Outcome{Kind: api.Data, Tag: tag, Arity: arity} }

func stuck() api.Outcome { return api.Outcome{Kind: api.Stuck} }

func isOut(o api.Outcome) bool {
	return o == outOfHeap() || o == outOfFuel()
}

type meant struct {
	source string
	want   api.Outcome
}

func numbersMeant() []meant {
	return []meant{
		{"main = 0;", number(0)},
		{"main = 007;", number(7)},
		{"main = 1 + 2 * 3;", number(7)},
		{"main = 10 - 3 - 2;", number(5)},
		{"main = 100 / 5 / 2;", number(10)},
		{"main = 0 - 7;", number(-7)},
		{"main = (0 - 7) / 2;", number(-3)},
		{"main = 7 / (0 - 2);", number(-3)},
		{"main = (0 - 7) / (0 - 2);", number(3)},
		{"main = 0 / 5;", number(0)},
		{"main = 1 / 0;", stuck()},
		{"main = 0 / 0;", stuck()},
		{"k = 65536 * 65536; main = k * k;", number(0)},
		{"k = 65536 * 65536; main = k * 32768 * 65536;", number(math.MinInt64)},
		{"k = 65536 * 65536; main = k * 32768 * 65536 - 1;", number(math.MaxInt64)},
		{"k = 65536 * 65536; main = k * 32768 * 65536 / (0 - 1);", number(math.MinInt64)},
		{"k = 65536 * 65536; main = 0 - k * 32768 * 65536;", number(math.MinInt64)},
		{"k = 65536 * 65536; main = k * 32768 * 65536 < 0;", data(2, 0)},
		{"main = 1 < 2;", data(2, 0)},
		{"main = 2 < 2;", data(1, 0)},
		{"main = 3 < 2;", data(1, 0)},
		{"main = 0 - 1 < 0;", data(2, 0)},
		{"main = 2 == 2;", data(2, 0)},
		{"main = 1 == 2;", data(1, 0)},
		{"main = {1,0} + 1;", stuck()},
		{"main = 1 + {1,0};", stuck()},
		{"main = {1,0} == {1,0};", stuck()},
		{"main = 1 == {1,0};", stuck()},
		{"main = (\\x. x) * 1;", stuck()},
		{"main = 1 - (\\x. x);", stuck()},
		{"main = 1 < {2,2} 1;", stuck()},
		{"main = {1,0} + main;", stuck()},
		{"main = (\\x. x) == main;", stuck()},
		{"main = {1,0} / (let rec x = x in x);", stuck()},
		{"main = 1 / 0 + main;", stuck()},
	}
}

func functionsMeant() []meant {
	return []meant{
		{"main = \\x. x;", stuck()},
		{"f x = x; main = f;", stuck()},
		{"f x y = x; main = f 1;", stuck()},
		{"f x y = x; main = f 1 2;", number(1)},
		{"f x y = x; main = f 1 2 3;", stuck()},
		{"f x y = \\z. z - x; main = f 1 2 3;", number(2)},
		{"main = 3 4;", stuck()},
		{"main = 3 main;", stuck()},
		{"main = {7,0} main;", stuck()},
		{"main = (\\x. 3) 1 main;", stuck()},
		{"k x y = x; main = k 4 (1 / 0);", number(4)},
		{"k x y = x; main = k 4 main;", number(4)},
		{"k x y = y; main = k main 4;", number(4)},
		{"f x = \\y. x - y; main = f 5 3;", number(2)},
		{"main = (\\a b c d e. a - b * c - d * e) 100 1 2 3 4;", number(86)},
		{"main = ((\\a. \\b c. \\d. a * 1000 + b * 100 + c * 10 + d) 1 2) 3 4;", number(1234)},
		{"f a b c d = a * 1000 + b * 100 + c * 10 + d; g = f 1; h = g 2 3; main = h 4 + h 5;", number(2469)},
		{"s f g x = f x (g x); k x y = x; main = s k k 3;", number(3)},
		{"t f x = f (f x); i n = n + 1; main = t t t i 0;", number(16)},
		{"f f = f + 1; main = f 2;", number(3)},
		{"f x = \\x. x; main = f 1 2;", number(2)},
		{"f x = \\y. \\z. x + z; main = f 1 2 3;", number(4)},
		{"x = 1 + 2; main = x + x;", number(6)},
		{"main = (\\main. main + 1) 5;", number(6)},
		{"a = b; b = c; c = 9; main = a;", number(9)},
		{"f = \\x. x * 2; main = f 4;", number(8)},
		{"f = g 1; g x y = x - y; main = f 3;", number(-2)},
		{"y f = f (y f); main = y (\\s n. case n == 0 of <2> -> 0; <1> -> n + s (n - 1)) 10;", number(55)},
		{"c f g x = f (g x); main = c (\\x. x + 1) (\\x. x * 2) 5;", number(11)},
		{"f x = x 1; main = f (f (f (\\a b c. {9,0})));", data(9, 0)},
		{"f x = x 1; main = f (f (f (\\a b c. b)));", number(1)},
	}
}

func dataMeant() []meant {
	return []meant{
		{"main = {7,0};", data(7, 0)},
		{"main = {99,9} 1 2 3 4 5 6 7 8 9;", data(99, 9)},
		{"main = {99,9} 1 2 3 4 5 6 7 8;", stuck()},
		{"main = {99,9} 1 2 3 4 5 6 7 8 9 10;", stuck()},
		{"main = {7,2} (1 / 0) 3;", data(7, 2)},
		{"main = {7,2} main main;", data(7, 2)},
		{"main = {7,2};", stuck()},
		{"main = {7,2} 1;", stuck()},
		{"main = let p = {7,3} 1 in p 2 3;", data(7, 3)},
		{"p = {5,2} 1; main = case p 2 of <5> a b -> case p 3 of <5> c d -> a + b * 10 + c * 100 + d * 1000;", number(3121)},
		{"main = case 1 < 2 of <2> -> 8;", number(8)},
		{"main = case 2 < 1 of <2> -> 8;", stuck()},
		{"main = case {3,0} of <1> -> 1; <2> -> 2; <3> -> 3; <4> -> 4;", number(3)},
		{"main = case {3,0} of <3> -> 1; <3> -> 2;", number(1)},
		{"main = case {3,1} 4 of <3> -> 1; <3> x -> 2;", stuck()},
		{"main = case {3,1} 4 of <3> x y -> 1;", stuck()},
		{"main = case {3,2} 4 5 of <3> x y -> x - y;", number(-1)},
		{"main = case {3,1} main of <3> x -> 6;", number(6)},
		{"main = case 3 of <3> -> 1;", stuck()},
		{"main = case \\x. x of <3> -> 1;", stuck()},
		{"main = case {3,1} of <3> x -> 1;", stuck()},
		{"main = case {3,1} 1 of <4> x -> 1;", stuck()},
		{"main = case {3,9} 1 2 3 4 5 6 7 8 9 of <3> a b c d e f g h i -> a * 100 + e * 10 + i;", number(159)},
		{"main = (case {2,1} (\\x. x + 1) of <2> f -> f) 5;", number(6)},
		{"main = 10 + (case {3,2} 7 9 of <3> a b -> let c = a * b in c - a) * 2;", number(122)},
		{"f x = case x of <1> -> case x of <1> -> 5; main = f {1,0};", number(5)},
		{"f x y = case x of <1> x -> x + y; <2> y -> x y + y; main = f ({1,1} 3) 4;", number(7)},
		{"f x y = case x of <1> x -> x + y; <2> y -> y; main = f ({2,1} 3) 4;", number(3)},
		{"main = case case {1,0} of <1> -> {2,1} 3 of <2> x -> x;", number(3)},
		{"main = case {1,2} (\\x. x) 4 of <1> f x -> f (f x);", number(4)},
	}
}

func letsMeant() []meant {
	return []meant{
		{"main = let x = 1 / 0 in 5;", number(5)},
		{"main = let x = 1; y = 2 in let x = y; y = x in x * 10 + y;", number(21)},
		{"main = let x = 1 in let x = x + 1 in let x = x * 5 in x;", number(10)},
		{"x = 4; main = let x = x in x;", number(4)},
		{"main = let rec x = 1; y = x in y;", number(1)},
		{"x = 4; main = let rec y = x; x = 5 in y;", number(5)},
		{"x = 4; main = let y = x; x = 5 in y;", number(4)},
		{"main = let rec xs = {2,2} 1 xs in case xs of <2> h t -> case t of <2> i u -> h + i;", number(2)},
		{"main = let rec a = {2,2} 1 b; b = {2,2} 2 a in case a of <2> h t -> case t of <2> i u -> case u of <2> j v -> h * 100 + i * 10 + j;", number(121)},
		{"main = let rec f = {2,2}; x = f 1 2 in case x of <2> a b -> b;", number(2)},
		{"main = let rec n = {1,0}; f = \\x. case x of <1> -> n; <2> -> 3 in case f n of <1> -> 9;", number(9)},
		{"main = let rec f = \\n. case n == 0 of <2> -> 0; <1> -> n + f (n - 1) in f 5;", number(15)},
		{"main = let rec e = \\n. case n == 0 of <2> -> 1; <1> -> o (n - 1); o = \\n. case n == 0 of <2> -> 0; <1> -> e (n - 1) in e 7 * 10 + o 7;", number(1)},
		{"main = 1 + (let x = 2 in x + x) + (let rec x = 3 in x) * 2;", number(11)},
		{"main = (let x = 2 in \\y. x - y) 7;", number(-5)},
		{"main = case (let x = 2 in {1,1} x) of <1> y -> y + 1;", number(3)},
		{"f a b c = let d = a + b in let e = d * c; g = \\x. x + d in g e; main = f 1 2 3;", number(12)},
		{"main = let f = \\x. let y = x + 1 in \\z. y * z in let g = f 1 in g 2 + g 3;", number(10)},
		{"take n l = case n == 0 of <2> -> {1,0}; <1> -> case l of <2> h t -> {2,2} h (take (n - 1) t); nats n = {2,2} n (nats (n + 1)); sum l = case l of <1> -> 0; <2> h t -> h + sum t; main = sum (take 10 (nats 1));", number(55)},
		{"fib n = case n < 2 of <2> -> n; <1> -> fib (n - 1) + fib (n - 2); main = fib 15;", number(610)},
		{"rev l a = case l of <1> -> a; <2> h t -> rev t ({2,2} h a); up n = case n == 0 of <2> -> {1,0}; <1> -> {2,2} n (up (n - 1)); main = case rev (up 9) {1,0} of <2> h t -> case t of <2> i u -> h * 10 + i;", number(12)},
	}
}

func allMeant() []meant {
	list := numbersMeant()
	list = append(list, functionsMeant()...)
	list = append(list, dataMeant()...)
	return append(list, letsMeant()...)
}

func TestRunMeaning(t *testing.T) {
	for _, c := range allMeant() {
		if o, errno := Run(c.source, api.MaxHeap, api.MaxFuel); o != c.want || errno != api.OK {
			t.Errorf("P4: Run(%q) = %+v, %d, want %+v", c.source, o, errno, c.want)
		}
		if o, _, ended := meaningOf(t, c.source, 300000); o != c.want || !ended {
			t.Errorf("%q means %+v, want %+v", c.source, o, c.want)
		}
	}
}

func TestRunErrors(t *testing.T) {
	for _, c := range []struct {
		source string
		want   api.Errno
	}{
		{strings.Repeat("x", api.MaxSource+1), api.ErrLong},
		{"main = 1", api.ErrText},
		{"main = {0,1};", api.ErrText},
		{"main = x;", api.ErrName},
		{"main = 1; main = 2;", api.ErrName},
		{"", api.ErrMain},
		{"f = 1;", api.ErrMain},
		{"main x = x;", api.ErrMain},
	} {
		for _, much := range []int{math.MinInt, -1, 0, 1, 1000, math.MaxInt} {
			if o, errno := Run(c.source, much, much); o != (api.Outcome{}) || errno != c.want {
				t.Errorf("P4: Run(%q, %d, %d) = %+v, %d, want %d", c.source, much, much, o, errno, c.want)
			}
		}
	}
}

func TestRunInNothing(t *testing.T) {
	for _, c := range allMeant() {
		for _, none := range []int{math.MinInt, -api.MaxHeap, -1, 0} {
			if o, errno := Run(c.source, none, api.MaxFuel); !isOut(o) || errno != api.OK {
				t.Errorf("P4: Run(%q, %d, ..) = %+v, %d", c.source, none, o, errno)
			}
			if o, errno := Run(c.source, api.MaxHeap, none); !isOut(o) || errno != api.OK {
				t.Errorf("P4: Run(%q, .., %d) = %+v, %d", c.source, none, o, errno)
			}
		}
	}
}

func TestRunForever(t *testing.T) {
	for _, source := range []string{
		"main = main;",
		"f x = f x; main = f 1;",
		"f = g; g = f; main = f;",
		"main = main + 1;",
		"main = 1 + main;",
		"main = main 1;",
		"main = case main of <1> -> 1;",
		"main = let rec x = x in x;",
		"main = let rec x = y; y = x in x;",
		"main = let rec x = 1 + x in x;",
		"main = let rec x = case x of <1> -> {1,0} in x;",
		"f x = 1 + f x; main = f 1;",
		"f x = f (x + 1); main = f 1;",
		"f x y = f y x; main = f 1 2;",
		"f x = case x of <1> -> f x; main = f {1,0};",
		"main = let rec f = \\x. f ({2,2} x x) in f 1;",
		"main = (\\x. x x) (\\x. x x);",
		"main = (\\x. x x x) (\\x. x x x);",
		"nats n = {2,2} n (nats (n + 1)); sum l = case l of <2> h t -> h + sum t; main = sum (nats 1);",
	} {
		for _, heap := range []int{0, 1, 10, 50, 500, 5000, api.MaxHeap, math.MaxInt} {
			for _, fuel := range []int{0, 1, 100, 10000, math.MaxInt} {
				if o, errno := Run(source, heap, fuel); !isOut(o) || errno != api.OK {
					t.Errorf("P4: Run(%q, %d, %d) = %+v, %d", source, heap, fuel, o, errno)
				}
			}
		}
	}
}

// least gives the first number at which a run has its answer, and fails if any
// below gives what is wrong, or any of some above gives it no more.
func least(t *testing.T, c meant, run func(int) api.Outcome) int {
	t.Helper()
	for much := range 20000 {
		o := run(much)
		if o == c.want {
			for _, more := range []int{1, 2, 3, 5, 8, 13, 100, 1001, math.MaxInt / 2} {
				if o := run(much + more); o != c.want {
					t.Errorf("P5: %q with %d more than %d: %+v, want %+v", c.source, more, much, o, c.want)
				}
			}
			return much
		}
		if !isOut(o) {
			t.Fatalf("P4: %q with %d: %+v, want %+v", c.source, much, o, c.want)
		}
	}
	t.Fatalf("P4: %q has no answer", c.source)
	return 0
}

// TestRunOut tries each heap and each fuel from 0 on: each is enough for all
// that begins in it, or the run is out.
func TestRunOut(t *testing.T) {
	for _, c := range allMeant() {
		if _, steps, _ := meaningOf(t, c.source, 300000); steps > 2000 {
			continue
		}
		heap := least(t, c, func(much int) api.Outcome {
			o, _ := Run(c.source, much, api.MaxFuel)
			return o
		})
		fuel := least(t, c, func(much int) api.Outcome {
			o, _ := Run(c.source, heap, much)
			return o
		})
		if heap < 1 || fuel < 1 {
			t.Errorf("P4: %q needs %d words and %d units", c.source, heap, fuel)
		}
		if o, _ := Run(c.source, heap-1, fuel); o != outOfHeap() {
			t.Errorf("P4: Run(%q, %d, %d) = %+v", c.source, heap-1, fuel, o)
		}
		if o, _ := Run(c.source, heap, fuel-1); o != outOfFuel() {
			t.Errorf("P4: Run(%q, %d, %d) = %+v", c.source, heap, fuel-1, o)
		}
		for _, more := range []int{1, 2, 3, 10, 100, 1000, api.MaxHeap} {
			if o, _ := Run(c.source, heap+more, fuel); o != c.want {
				t.Errorf("P5: Run(%q, %d, %d) = %+v, want %+v", c.source, heap+more, fuel, o, c.want)
			}
		}
	}
}

// TestRunBounds: more than the most is the most.
func TestRunBounds(t *testing.T) {
	up := hold(100000)
	spin := "f x = f x; main = f 1;"
	for _, more := range []int{api.MaxHeap, api.MaxHeap + 1, 100 * api.MaxHeap, math.MaxInt} {
		if o, errno := Run(up, more, api.MaxFuel); o != outOfHeap() || errno != api.OK {
			t.Errorf("P4: Run(%q, %d, ..) = %+v, %d", up, more, o, errno)
		}
	}
	for _, more := range []int{api.MaxFuel, api.MaxFuel + 1, math.MaxInt} {
		if o, errno := Run(spin, api.MaxHeap, more); o != outOfFuel() || errno != api.OK {
			t.Errorf("P4: Run(%q, .., %d) = %+v, %d", spin, more, o, errno)
		}
	}
}

// TestRunShares: each of these takes few STEPS, but for ever if what is bound
// were worked out each time.
func TestRunShares(t *testing.T) {
	lets, data, arguments, partial, functions := "", "", "", "", ""
	for i := range 28 {
		x, y := "x"+strconv.Itoa(i), "x"+strconv.Itoa(i+1)
		functions += y + "=" + x + "+" + x + ";"
		if i < 20 {
			lets += "let " + y + "=" + x + "+" + x + " in "
		}
		if i < 12 {
			arguments += "(\\" + y + "."
			data += "case{1,1}(" + x + "+" + x + "+" + x + "+" + x + ")of<1>" + y + "->"
		}
		if i < 6 {
			partial += "let " + y + "=(\\a.let b=" + x + " 1 in\\c.b+b+c-a)1 in "
		}
	}
	call := arguments + "x12"
	for i := 11; i >= 0; i-- {
		x := "x" + strconv.Itoa(i)
		call += ")(" + x + "+" + x + "+" + x + "+" + x + ")"
	}
	for _, c := range []meant{
		{"x0=1;" + functions + "main=x28;", number(1 << 28)},
		{"main=let x0=1 in " + lets + "x20;", number(1 << 20)},
		{"main=let x0=1 in " + data + "x12;", number(1 << 24)},
		{"x0=1;main=" + call + ";", number(1 << 24)},
		{"x0 a=a;main=" + partial + "x6 1+x6 1;", number(1 << 7)},
		{"f n=case n==0 of<2>->1;<1>->let r=f(n-1)in r+r;main=f 9;", number(512)},
		{"g p=case p of<1>a->a+a;m n=case n==0 of<2>->1;<1>->g({1,1}(m(n-1)));main=m 7;", number(128)},
	} {
		want, steps, ended := meaningOf(t, c.source, 150)
		if !ended || want != c.want {
			t.Errorf("%q means %+v in %d STEPS, want %+v", c.source, want, steps, c.want)
		}
		if o, errno := Run(c.source, api.MaxHeap, api.MaxFuel); o != c.want || errno != api.OK {
			t.Errorf("P6: Run(%q) = %+v, %d, want %+v", c.source, o, errno, c.want)
		}
	}
}

// TestRunHoldsWide: many names at each of 150 STEPS.
func TestRunHoldsWide(t *testing.T) {
	names := strings.Split("a b c d e g h i j k l m o p q r s t u v w x y z", " ")
	params := strings.Join(names, " ")
	turned := strings.Join(append(names[1:len(names):len(names)], names[0]), " ")
	binds := strings.Join(names, "=n;") + "=n"
	loops := strings.Join(names, "=f n;") + "=f n"
	sums := strings.Join(names, "+")
	for _, source := range []string{
		"f n " + params + "=case n<1 of<2>->a+b+z;<1>->f(n-1)" + turned + ";main=f 2" + strings.Repeat(" 1", len(names)) + ";",
		"f n=case n<1 of<2>->7;<1>->let " + binds + " in f(n-1);main=f 9;",
		"f n=case n<1 of<2>->7;<1>->let rec " + binds + " in f(n-1);main=f 9;",
		"f n=case n<1 of<2>->7;<1>->let " + loops + " in f(n-1);main=f 9;",
		"f n=case n<1 of<2>->0;<1>->let rec " + binds + ";nn=" + sums + " in f(n-1)+1;main=f 8;",
		"f n=let " + binds + " in case n<1 of<2>->" + sums + ";<1>->(\\x.x+f(n-1))1;main=f 3;",
		"main=" + strings.Repeat("1+", 70) + "1;",
		"main=" + strings.Repeat("1+(", 70) + "1" + strings.Repeat(")", 70) + ";",
		"main=" + strings.Repeat("(\\x.", 70) + "1" + strings.Repeat(")1", 70) + ";",
		"main=(\\" + params + "." + strings.ReplaceAll(sums, "+", "+(") + strings.Repeat(")", len(names)-1) + ")" + strings.Repeat(" 1", len(names)) + ";",
	} {
		want, steps, ended := meaningOf(t, source, 150)
		if !ended || steps < 50 {
			t.Errorf("%q takes %d STEPS", source, steps)
		}
		if o, errno := Run(source, api.MaxHeap, api.MaxFuel); o != want || errno != api.OK {
			t.Errorf("P6: Run(%q) = %+v, %d, want %+v", source, o, errno, want)
		}
	}
}

// TestRunAtRandom holds Run against the meaning of programs that are made up.
func TestRunAtRandom(t *testing.T) {
	w := &writer{random: rand.New(rand.NewSource(6))}
	tried := map[int]int{}
	for i := range 4000 {
		w.wrong = []int{0, 2, 10, 70}[i%4]
		source := w.program()
		if len(source) > api.MaxSource {
			continue
		}
		want, steps, ended := meaningOf(t, source, 2000)
		fuel := api.MaxFuel
		if !ended {
			fuel = 100000
		}
		o, errno := Run(source, api.MaxHeap, fuel)
		if errno != api.OK || ended && o != want && (steps <= 150 || !isOut(o)) {
			t.Fatalf("P6: Run(%q) = %+v, %d, want %+v after %d STEPS", source, o, errno, want, steps)
		}
		tried[o.Kind]++
		checkMore(t, w.random, source, o)
	}
	if tried[api.Number] < 1000 || tried[api.Data] < 500 || tried[api.Stuck] < 500 || tried[api.OutOfFuel]+tried[api.OutOfHeap] < 100 {
		t.Errorf("too few programs: %v", tried)
	}
}

// checkMore goes on with more heap or more fuel, from little on.
func checkMore(t *testing.T, random *rand.Rand, source string, all api.Outcome) {
	t.Helper()
	heap, fuel := 1, 1
	answered := false
	for heap < 3000 && fuel < 6000 {
		o, _ := Run(source, heap, fuel)
		if o != all && !isOut(o) {
			t.Fatalf("P4: Run(%q, %d, %d) = %+v, want %+v or out", source, heap, fuel, o, all)
		}
		if answered && isOut(o) {
			t.Fatalf("P5: Run(%q, %d, %d) = %+v, with less it was %+v", source, heap, fuel, o, all)
		}
		answered = !isOut(o)
		if random.Intn(2) == 0 {
			heap += random.Intn(2*heap + 1)
		} else {
			fuel += random.Intn(2*fuel + 1)
		}
	}
}
