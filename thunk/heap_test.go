package thunk

import (
	"math"
	"strconv"
	"strings"
	"testing"

	"thunk/api"
)

// littleHeap is what P7 gives.
const littleHeap = 600

func outOfHeap() api.Outcome { return api.Outcome{Kind: api.OutOfHeap} }

func outOfFuel() api.Outcome { return api.Outcome{Kind: api.OutOfFuel} }

// downs gives counting down from n: alone, and with two more parameters that
// are passed on or turned about.
func downs(n int) []string {
	from := strconv.Itoa(n)
	return []string{
		"down n = case n == 0 of <2> -> 7; <1> -> down (n - 1); main = down " + from + ";",
		"down n x y = case n == 0 of <2> -> 7; <1> -> down (n - 1) x y; main = down " + from + " 1 2;",
		"down n x y = case n == 0 of <2> -> 7; <1> -> down (n - 1) y x; main = down " + from + " 1 2;",
		"down x n y = case n == 0 of <2> -> 7; <1> -> down y (n - 1) x; main = down main " + from + " (1 / 0);",
	}
}

func checkDown(t *testing.T, n int) {
	t.Helper()
	for _, source := range downs(n) {
		if o, errno := Run(source, littleHeap, api.MaxFuel); o != number(7) || errno != api.OK {
			t.Errorf("P7: Run(%q, %d, ..) = %+v, %d", source, littleHeap, o, errno)
		}
	}
}

func TestRunCountsDownInLittle(t *testing.T) {
	for n := range 400 {
		checkDown(t, n)
	}
	for n := 400; n < 9900; n += 53 {
		checkDown(t, n)
	}
	for n := 9990; n <= 9999; n++ {
		checkDown(t, n)
	}
}

func TestRunCountsDownWithFuel(t *testing.T) {
	for _, n := range []int{0, 1, 2, 3, 20, 200, 999, 9998, 9999} {
		for _, source := range downs(n) {
			for _, fuel := range []int{math.MinInt, -1, 0, 1, n / 2, n - 1, n} {
				if fuel > n {
					continue
				}
				if o, errno := Run(source, littleHeap, fuel); o != outOfFuel() || errno != api.OK {
					t.Errorf("P7: Run(%q, %d, %d) = %+v, %d", source, littleHeap, fuel, o, errno)
				}
			}
		}
	}
}

func hold(n int) string {
	return "up n = case n == 0 of <2> -> {1,0}; <1> -> {2,2} n (up (n - 1)); size l = case l of <1> -> 0; <2> h t -> 1 + size t; main = let l = up " + strconv.Itoa(n) + " in size l + size l;"
}

func TestRunHoldsList(t *testing.T) {
	for n := range 201 {
		source := hold(n)
		if o, errno := Run(source, api.MaxHeap, api.MaxFuel); o != number(int64(2*n)) || errno != api.OK {
			t.Errorf("P8: Run(%q) = %+v, %d", source, o, errno)
		}
		if n == 0 {
			continue
		}
		for heap := -1; heap <= n; heap++ {
			if o, errno := Run(source, heap, api.MaxFuel); o != outOfHeap() || errno != api.OK {
				t.Errorf("P8: Run(%q, %d, ..) = %+v, %d", source, heap, o, errno)
			}
		}
	}
}

// TestRunHoldsLittle: what is done with is not held, by whomever it was: a frame
// that is left, a closure that is worked out or has been, what waits.
func TestRunHoldsLittle(t *testing.T) {
	lists := "up n = case n == 0 of <2> -> {1,0}; <1> -> {2,2} n (up (n - 1)); go l = case l of <1> -> 7; <2> h t -> go t; "
	for _, source := range []string{
		"main = let rec down = \\n. case n == 0 of <2> -> 7; <1> -> down (n - 1) in down 9999;",
		"even n = case n == 0 of <2> -> 7; <1> -> odd (n - 1); odd n = case n == 0 of <2> -> 8; <1> -> even (n - 1); main = even 9998;",
		"down n = case n == 0 of <2> -> \\x y z. x + z; <1> -> down (n - 1); main = down 9999 3 (1 / 0) 4;",
		"down n k = case n == 0 of <2> -> k 2; <1> -> down (n - 1) (\\x. x + 5); main = down 9999 0;",
		"f a b = \\n. case n == 0 of <2> -> 7; <1> -> f b a (n - 1); main = let g = f 1 in g 2 9999;",
		"sum n a = case n == 0 of <2> -> a; <1> -> case a < 0 of <1> -> sum (n - 1) (a + 1); main = sum 9999 0 - 9992;",
		"down n = case n == 0 of <2> -> 7; <1> -> case {5,3} n n n of <5> a b c -> down (b - 1); main = down 9999;",
		"down n = let rec a = {1,2} b n; b = {1,1} a in case n == 0 of <2> -> 7; <1> -> down (n - 1); main = down 9999;",
		"down n = let a = n; b = n in let c = down a in case n == 0 of <2> -> 7; <1> -> down (b - 1); main = down 9999;",
		"go n l = case n == 0 of <2> -> 7; <1> -> case l of <2> h t -> go (n - h) t; main = let rec ones = {2,2} 1 ones in go 9999 ones;",
		lists + "main = go (up 9999);",
		lists + "main = let l = up 9999 in go l;",
		lists + "main = let l = up 9999 in let m = l in 0 + go m;",
		lists + "main = (\\l. go l) (up 9999);",
		lists + "main = case up 9999 of <2> h t -> go t;",
		lists + "k x = x + 0; g l = k (go l); main = g (up 9999);",
		lists + "k x = x + x; g l = k (go l); main = g (up 9999) / 2;",
		lists + "g l n = go l + n; main = g (up 9999) 0;",
		lists + "p = {3,2}; main = case p (up 9999) 1 of <3> l n -> n * go l;",
		lists + "f l = \\m. go m; main = f (up 9999) (up 9999);",
		lists + "f l = case go l == 7 of <2> -> 7; main = f (up 9999);",
		lists + "k x = case x == 7 of <2> -> {3,1} 7; f l = case k (go l) of <3> l -> l; main = f (up 9999);",
		lists + "f l = go l * (let l = 1 in l); main = f (up 9999);",
		lists + "f l = go l * (let rec l = 1; m = l in m); main = f (up 9999);",
		lists + "f l = go l * (\\l. l) 1; main = f (up 9999);",
		"down n = let y = \\z. " + strings.Repeat("n+", 200) + "z in case n == 0 of <2> -> 7; <1> -> down (n - 1); main = down 9999;",
		lists + "f l = case l of <2> l t -> l; <1> -> 1; main = (case 1 < f (up 9999) of <2> -> go) (up 9999);",
	} {
		if o, errno := Run(source, littleHeap, api.MaxFuel); o != number(7) || errno != api.OK {
			t.Errorf("P7: Run(%q, %d, ..) = %+v, %d", source, littleHeap, o, errno)
		}
	}
}

// TestRunHoldsFunctions: what a function without parameters means is reached
// by it, so that it is worked out once.
func TestRunHoldsFunctions(t *testing.T) {
	source := "up n = case n == 0 of <2> -> {1,0}; <1> -> {2,2} n (up (n - 1)); size l = case l of <1> -> 0; <2> h t -> 1 + size t; l = up 50; go n = case n == 0 of <2> -> size l; <1> -> case size l == 50 of <2> -> go (n - 1); main = go 400;"
	if o, errno := Run(source, 2000, api.MaxFuel); o != number(50) || errno != api.OK {
		t.Errorf("P7: Run(%q, 2000, ..) = %+v, %d", source, o, errno)
	}
}

// leastFuel gives what a program needs in the greatest heap.
func leastFuel(source string) int {
	low, high := 0, api.MaxFuel
	for low < high {
		fuel := (low + high) / 2
		if o, _ := Run(source, api.MaxHeap, fuel); isOut(o) {
			low = fuel + 1
		} else {
			high = fuel
		}
	}
	return low
}

// TestRunTakesNoFuelToClear: what is enough in the greatest heap, which is not
// cleared, is enough in each in which the program is answered, and no less is.
func TestRunTakesNoFuelToClear(t *testing.T) {
	for _, source := range append(downs(20), hold(9), "f x y = x + y; g = f 1; go n = case n == 0 of <2> -> 7; <1> -> case g n == 0 of <2> -> 0; <1> -> go (n - 1); main = go 20;") {
		fuel := leastFuel(source)
		answered := false
		for heap := range 700 {
			all, _ := Run(source, heap, api.MaxFuel)
			if answered && isOut(all) {
				t.Fatalf("P5: Run(%q, %d, ..) = %+v, but in less it was answered", source, heap, all)
			}
			answered = !isOut(all)
			if o, _ := Run(source, heap, fuel); o != all {
				t.Fatalf("P5: Run(%q, %d, %d) = %+v, want %+v", source, heap, fuel, o, all)
			}
			if o, _ := Run(source, heap, fuel-1); !isOut(o) {
				t.Fatalf("P5: Run(%q, %d, %d) = %+v, but not in the greatest heap", source, heap, fuel-1, o)
			}
		}
		if !answered {
			t.Errorf("P4: Run(%q, 699, ..) has no answer", source)
		}
	}
}
