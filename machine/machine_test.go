package machine

import (
	"testing"

	"thunk/api"
	"thunk/code"
)

// three is a program with a main that makes 3 in two instructions.
func three() code.Program {
	main := code.Block{Code: []code.Instruction{code.PushNumber{Value: 3}, code.Enter{}}}
	return code.Program{Blocks: []code.Block{main}, Functions: 1}
}

// TestRunTakesWordsAndFuel counts them, of P4: a word for the function, two for
// main that waits for its value, two for the number, one to push it; and as
// many in the other half.
func TestRunTakesWordsAndFuel(t *testing.T) {
	for _, c := range []struct{ words, fuel, kind int }{
		{12, 2, api.Number},
		{13, 3, api.Number},
		{11, 2, api.OutOfHeap},
		{12, 1, api.OutOfFuel},
		{12, 0, api.OutOfFuel},
		{0, 2, api.OutOfHeap},
		{1, 2, api.OutOfHeap},
		{2, 2, api.OutOfHeap},
		{3, 2, api.OutOfHeap},
		{4, 2, api.OutOfHeap},
	} {
		want := api.Outcome{Kind: c.kind}
		if c.kind == api.Number {
			want.N = 3
		}
		if got := Run(three(), c.words, c.fuel); got != want {
			t.Errorf("P4: in %d words with %d units: %+v, want %+v", c.words, c.fuel, got, want)
		}
	}
}

// TestFaultIsNoOutcome: only a run that gives up is caught.
func TestFaultIsNoOutcome(t *testing.T) {
	defer func() {
		if recover() == nil {
			t.Error("a program with no such function has an outcome")
		}
	}()
	program := three()
	program.Main = 1
	Run(program, 100, 100)
}

func TestHeaders(t *testing.T) {
	for _, k := range []kind{number, data, closure, busy, moved, forward} {
		for _, what := range []int{0, 1, 99, api.MaxHeap} {
			for _, count := range []int{0, 1, 9, api.MaxSource} {
				head := header(k, what, count)
				if kindOf(head) != k || whatOf(head) != what || countOf(head) != count {
					t.Errorf("header(%d, %d, %d) is %d, %d, %d", k, what, count, kindOf(head), whatOf(head), countOf(head))
				}
			}
		}
	}
}

func TestMarks(t *testing.T) {
	for _, w := range []waiter{update, proceed, arguments} {
		for _, what := range []int{0, 1, 99, api.MaxHeap} {
			word := mark(w, what)
			if word >= 0 || waiterOf(word) != w || waitsWith(word) != what {
				t.Errorf("mark(%d, %d) = %d is %d, %d", w, what, word, waiterOf(word), waitsWith(word))
			}
		}
	}
}
