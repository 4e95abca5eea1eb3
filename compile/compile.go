// Package compile turns a program into instructions.
package compile

import (
	"slices"

	"thunk/code"
	"thunk/tree"
)

// compiler gathers the blocks of a program.
type compiler struct {
	functions []string
	blocks    []code.Block
}

// Program turns a program that Check accepts into instructions.
func Program(program tree.Program) code.Program {
	c := &compiler{functions: program.Names()}
	// Functions may name those behind them, so their blocks have their numbers
	// before they are written.
	c.blocks = make([]code.Block, len(program))
	for i, f := range program {
		block := c.block(frame(tree.Texts(f.Params)), func(b *builder) { b.work(f.Body, 0) })
		c.blocks[i] = block // not before: what it has inside makes the list longer
	}
	return code.Program{
		Blocks:    c.blocks,
		Functions: len(program),
		Main:      slices.Index(c.functions, "main"),
	}
}

// frame gives the slots of words that stand on the stack from its top on.
func frame(fromTop ...[]string) []string {
	slots := slices.Concat(fromTop...)
	slices.Reverse(slots)
	return slots
}

func (c *compiler) block(slots []string, write func(*builder)) code.Block {
	b := &builder{compiler: c, slots: slots}
	write(b)
	return code.Block{Slots: len(slots), Code: b.code}
}

// add gives the number of a new block.
func (c *compiler) add(slots []string, write func(*builder)) int {
	block := c.block(slots, write)
	c.blocks = append(c.blocks, block)
	return len(c.blocks) - 1
}

// suspension gives the block that works out an expression from words with
// these names.
func (c *compiler) suspension(e tree.Expr, names []string) int {
	return c.add(frame(names), func(b *builder) { b.work(e, 0) })
}

func (c *compiler) lambda(e tree.Lambda, names []string) int {
	return c.add(frame(names, tree.Texts(e.Params)), func(b *builder) { b.work(e.Body, 0) })
}

func (c *compiler) maker(e tree.Maker) int {
	return c.add(make([]string, e.Arity), func(b *builder) {
		b.write(code.Pack{Tag: e.Tag, Count: e.Arity})
		b.write(code.Enter{})
	})
}

// right gives the block that waits for the left value of an operation.
func (c *compiler) right(e tree.Operation, names []string) int {
	return c.add(frame(noName(), names), func(b *builder) {
		left := len(b.slots) - 1
		b.write(code.NeedNumber{})
		b.push(code.Push{Slot: left})
		b.push(code.Wait{Block: c.compute(e.Sign)})
		b.work(e.Right, 2)
	})
}

// compute gives the block that waits for the right value of an operation.
func (c *compiler) compute(sign string) int {
	return c.add(frame(noName(), noName()), func(b *builder) {
		b.write(code.Compute{Sign: sign})
		b.write(code.Enter{})
	})
}

// arms gives the block that waits for the subject of a case.
func (c *compiler) arms(arms []tree.Arm, names []string) int {
	return c.add(frame(noName(), names), func(b *builder) {
		var list []code.Arm
		for _, arm := range arms {
			list = append(list, c.arm(arm, names))
		}
		b.write(code.Choose{Arms: list})
	})
}

func (c *compiler) arm(arm tree.Arm, names []string) code.Arm {
	block := c.add(frame(tree.Texts(arm.Names), names), func(b *builder) { b.work(arm.Body, 0) })
	return code.Arm{Tag: arm.Tag, Count: len(arm.Names), Block: block}
}

// noName stands for a word that no name of the source means.
func noName() []string { return []string{""} }
