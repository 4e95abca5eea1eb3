package compile

import (
	"slices"

	"thunk/code"
	"thunk/tree"
)

// builder writes a block. Its slots have the names of the words in the frame
// and of those pushed since: of two that are alike the later one is meant.
type builder struct {
	compiler *compiler
	slots    []string
	code     []code.Instruction
}

func (b *builder) write(i code.Instruction) { b.code = append(b.code, i) }

// push writes an instruction that pushes one word.
func (b *builder) push(i code.Instruction) {
	b.write(i)
	b.slots = append(b.slots, noName()...)
}

// drop forgets words that an instruction takes from the top.
func (b *builder) drop(count int) { b.slots = b.slots[:len(b.slots)-count] }

// slot gives -1 for the name of a function.
func (b *builder) slot(name string) int {
	for i, text := range slices.Backward(b.slots) {
		if text == name {
			return i
		}
	}
	return -1
}

// held gives those of the names that mean words of the frame, and no function.
func (b *builder) held(names []string) []string {
	return slices.DeleteFunc(slices.Clone(names), func(name string) bool {
		return b.slot(name) < 0
	})
}

func (b *builder) use(name string) {
	if slot := b.slot(name); slot >= 0 {
		b.push(code.Push{Slot: slot})
		return
	}
	b.push(code.PushFunction{Function: slices.Index(b.compiler.functions, name)})
}

// useAll pushes the last one first, so that the first one is on top.
func (b *builder) useAll(names []string) {
	for _, name := range slices.Backward(names) {
		b.use(name)
	}
}

// closure gives a block for an expression, and the names of the words that the
// block takes from here. It is a function if the block lacks words beside.
func (b *builder) closure(e tree.Expr) (block int, names []string) {
	names = b.held(free(e))
	switch e := e.(type) {
	case tree.Lambda:
		return b.compiler.lambda(e, names), names
	case tree.Maker:
		return b.compiler.maker(e), names
	}
	return b.compiler.suspension(e, names), names
}

// hold pushes what an expression means, to be worked out when it is needed.
func (b *builder) hold(e tree.Expr) {
	switch e := e.(type) {
	case tree.Use:
		b.use(e.Name.Text)
		return
	case tree.Number:
		b.push(code.PushNumber{Value: e.Value})
		return
	case tree.Maker:
		if e.Arity == 0 {
			b.push(code.Pack{Tag: e.Tag})
			return
		}
	}
	block, names := b.closure(e)
	b.useAll(names)
	b.drop(len(names))
	b.push(code.Close{Block: block, Count: len(names)})
}

// work writes what works an expression out, and so ends the block. Below it on
// the stack are as many words of those who wait, pushed in this block: all
// else of the block is dropped before the machine goes on elsewhere, so that
// nothing is held but what someone needs.
func (b *builder) work(e tree.Expr, below int) {
	switch e := e.(type) {
	case tree.Call:
		b.call(e, below)
	case tree.Operation:
		names := b.held(free(e.Right))
		b.wait(e.Left, names, b.compiler.right(e, names), below)
	case tree.Case:
		names := b.held(freeOfArms(e.Arms))
		b.wait(e.Subject, names, b.compiler.arms(e.Arms, names), below)
	case tree.Let:
		b.let(e, below)
	default:
		b.hold(e)
		b.end(below+1, code.Enter{})
	}
}

func (b *builder) end(count int, last code.Instruction) {
	b.write(code.Slide{Count: count})
	b.write(last)
}

// wait works an expression out for a block that takes words with these names.
func (b *builder) wait(e tree.Expr, names []string, block, below int) {
	b.useAll(names)
	b.push(code.Wait{Block: block})
	b.work(e, below+len(names)+1)
}

func (b *builder) call(e tree.Call, below int) {
	function, arguments := spread(e)
	for _, argument := range slices.Backward(arguments) {
		b.hold(argument)
	}
	b.push(code.WaitFunction{Count: len(arguments)})
	b.work(function, below+len(arguments)+1)
}

// spread gives a call all the arguments of the calls that it has as function.
func spread(e tree.Call) (function tree.Expr, arguments []tree.Expr) {
	inner, ok := e.Function.(tree.Call)
	if !ok {
		return e.Function, []tree.Expr{e.Argument}
	}
	function, arguments = spread(inner)
	return function, append(arguments, e.Argument)
}

// let binds in the frame. Where others wait above the frame, that is left to a
// block of its own, since Slide drops only what is below them.
func (b *builder) let(e tree.Let, below int) {
	if below > 0 {
		names := b.held(free(e))
		b.useAll(names)
		b.end(below+len(names), code.Jump{Block: b.compiler.suspension(e, names)})
		return
	}
	if e.Recursive {
		b.bindTogether(e)
	} else {
		b.bind(e)
	}
	b.work(e.Body, 0)
}

// bind names the words only when all are there: no bind sees another.
func (b *builder) bind(e tree.Let) {
	first := len(b.slots)
	for _, bind := range e.Binds {
		b.hold(bind.Body)
	}
	copy(b.slots[first:], e.Names())
}

// bindTogether makes all closures before any is filled: each may hold each.
func (b *builder) bindTogether(e tree.Let) {
	first := len(b.slots)
	b.slots = append(b.slots, e.Names()...)
	held := make([][]string, len(e.Binds))
	for i, bind := range e.Binds {
		block, names := b.closure(bind.Body)
		b.write(code.Reserve{Block: block, Count: len(names)})
		held[i] = names
	}
	for i, names := range held {
		b.useAll(names)
		b.drop(len(names))
		b.write(code.Fill{Slot: first + i, Count: len(names)})
	}
}
