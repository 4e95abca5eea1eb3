// Package code: the instructions of the machine.
//
// The machine has a stack. An instruction finds what it works on at its top,
// or in the frame: the words that belong to the block of instructions that is
// being run. Slots number the words of the frame from its bottom on, so that a
// word keeps its slot whatever is pushed behind it.
package code

import (
	"iter"
	"slices"
)

// Program has the blocks of all functions: that of a function is the one with
// the function's own number; behind these stand the blocks of their parts.
type Program struct {
	Blocks    []Block
	Functions int // how many there are
	Main      int // the number of main
}

// Block is run from its first instruction to its last. Only the last one tells
// where the machine goes on, so that no block has a jump in its middle.
type Block struct {
	Slots int // the words of the frame with which it begins
	Code  []Instruction
}

// Instructions goes through a block.
func (b Block) Instructions() iter.Seq[Instruction] {
	return slices.Values(b.Code)
}

// Instruction is one of the types below.
type Instruction interface {
	instruction()
}

// step makes a type an Instruction by standing in it.
type step struct{}

func (step) instruction() {}

// Push pushes a word of the frame once more.
type Push struct {
	step
	Slot int
}

// PushFunction pushes a function of the program.
type PushFunction struct {
	step
	Function int
}

// PushNumber makes a number.
type PushNumber struct {
	step
	Value int64
}

// Pack makes data of the topmost words: the first part is on top.
type Pack struct {
	step
	Tag, Count int
}

// Close makes a closure of a block and the topmost words, with which its frame
// is to begin. If that is the whole frame, the closure is what the block works
// out when it is needed; if words lack, it is a function of these.
type Close struct {
	step
	Block, Count int
}

// Reserve makes a closure as Close does, but with no words yet, so that
// closures may hold each other.
type Reserve struct {
	step
	Block, Count int
}

// Fill gives the topmost words to the closure that Reserve left in a slot.
type Fill struct {
	step
	Slot, Count int
}

// Wait makes a block wait for a value, with what was pushed last for it; its
// frame is this and, on top, the value.
type Wait struct {
	step
	Block int
}

// WaitFunction makes the topmost words wait for a function that takes them:
// the first argument is on top.
type WaitFunction struct {
	step
	Count int
}

// Slide drops the frame from below the topmost words.
type Slide struct {
	step
	Count int
}

// NeedNumber has no meaning if what is on top is no number.
type NeedNumber struct {
	step
}

// Compute takes two values, the right one from the top, and makes what an
// operation gives.
type Compute struct {
	step
	Sign string
}

// Enter is a last instruction: what is on top is worked out, if it is no value
// yet, and given to who waits.
type Enter struct {
	step
}

// Jump is a last instruction: a block goes on with the topmost words.
type Jump struct {
	step
	Block int
}

// Choose is a last instruction: the arm that has the tag of the value on top
// goes on with the data's parts in the value's place.
type Choose struct {
	step
	Arms []Arm
}

// Arm tells which block goes on at a tag, and with how many parts.
type Arm struct {
	Tag, Count, Block int
}
