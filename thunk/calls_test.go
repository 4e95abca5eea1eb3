package thunk

import (
	"math"
	"math/rand"
	"strings"
	"testing"

	"thunk/api"
)

// checkCalls holds what P1 says of every call at one source.
func checkCalls(t *testing.T, source string) {
	t.Helper()
	errno, place := Check(source)
	text := Show(source)
	if again, at := Check(source); again != errno || at != place {
		t.Errorf("P1: Check(%q) = %d, %d, then %d, %d", source, errno, place, again, at)
	}
	if again := Show(source); again != text {
		t.Errorf("P1: Show(%q) = %q, then %q", source, text, again)
	}
	if errno < api.OK || errno > api.ErrMain || place < 0 || place > len(source) {
		t.Errorf("P1: Check(%q) = %d, %d", source, errno, place)
	}
	if (errno == api.OK || errno == api.ErrLong) && place != 0 {
		t.Errorf("P1: Check(%q) = %d with the place %d", source, errno, place)
	}
	if (errno == api.OK) != (text != "") {
		t.Errorf("P1: Show(%q) = %q, and Check answers %d", source, text, errno)
	}
	checkRun(t, source, errno)
}

func checkRun(t *testing.T, source string, want api.Errno) {
	t.Helper()
	outcome, errno := Run(source, 300, 300)
	if again, other := Run(source, 300, 300); again != outcome || other != errno {
		t.Errorf("P1: Run(%q) = %+v, %d, then %+v, %d", source, outcome, errno, again, other)
	}
	if errno != want {
		t.Errorf("P1: Run(%q) = %+v, %d, and Check answers %d", source, outcome, errno, want)
	}
	if errno != api.OK && outcome != (api.Outcome{}) {
		t.Errorf("P1: Run(%q) = %+v, %d", source, outcome, errno)
	}
	if errno == api.OK && (outcome.Kind < api.Number || outcome.Kind > api.OutOfFuel) {
		t.Errorf("P4: Run(%q) = %+v, %d", source, outcome, errno)
	}
}

func TestCallsAtAllShortStrings(t *testing.T) {
	checkCalls(t, "")
	for a := range 256 {
		checkCalls(t, string([]byte{byte(a)}))
		for b := range 256 {
			checkCalls(t, string([]byte{byte(a), byte(b)}))
			checkCalls(t, "main = "+string([]byte{byte(a), byte(b)}))
			checkCalls(t, "main = 1"+string([]byte{byte(a), byte(b)})+";")
		}
	}
}

func TestCallsAtRandomBytes(t *testing.T) {
	random := rand.New(rand.NewSource(1))
	for range 20000 {
		source := make([]byte, random.Intn(20))
		for i := range source {
			source[i] = byte(random.Intn(256))
		}
		checkCalls(t, string(source))
	}
}

func TestCallsAtCutAndSplicedSources(t *testing.T) {
	random := rand.New(rand.NewSource(2))
	pieces := []string{"main", "=", ";", "(", ")", "{", "}", ",", "<", ">", ".", `\`, "+", "->", "==", "let", "rec", "in", "case", "of", "x", "1", " ", "\n", "<1>", "{1,0}", "\xff", "é"}
	for range 50000 {
		source := "main="
		for range random.Intn(25) {
			source += pieces[random.Intn(len(pieces))] + " "[random.Intn(2):]
		}
		checkCalls(t, source)
	}
}

func TestCallsAtDeepSources(t *testing.T) {
	for _, deep := range []string{"(", `\x.`, "let x=", "let x=1 in ", "case ", "case 1 of<1>->", "case(", "1+(", "f x=", "{", "f ", "1 ", "1*", "1<", "let rec x="} {
		for length := 580; length <= 610; length++ {
			source := "main=" + strings.Repeat(deep, length)
			checkCalls(t, source[:length])
		}
	}
	for _, c := range []struct{ open, middle, close string }{{"(", "1", ")"}, {`\x.`, "x", ""}, {"let x=1 in ", "x", ""}, {"case 1 of<1>->", "1", ""}, {"case ", "1", " of<1>->1"}, {"let x=", "1", " in x"}, {"1+(", "1", ")"}} {
		depth := (api.MaxSource - 10) / (len(c.open) + len(c.close))
		source := "main=" + strings.Repeat(c.open, depth) + c.middle + strings.Repeat(c.close, depth) + ";"
		checkCalls(t, source)
		if errno, place := Check(source); errno != api.OK {
			t.Errorf("P1: Check(%q) = %d, %d", source, errno, place)
		}
	}
}

func TestRunEnds(t *testing.T) {
	numbers := []int{math.MinInt, -1, 0, 1, api.MaxHeap, api.MaxFuel, api.MaxFuel + 1, math.MaxInt}
	for _, source := range []string{"", "main = 1;", "main = main;", "x", strings.Repeat("x", 601)} {
		for _, heap := range numbers {
			for _, fuel := range numbers {
				outcome, errno := Run(source, heap, fuel)
				if errno != api.OK && outcome != (api.Outcome{}) {
					t.Errorf("P1: Run(%q, %d, %d) = %v, %d", source, heap, fuel, outcome, errno)
				}
			}
		}
	}
}
