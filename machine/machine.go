// Package machine runs instructions on a graph of nodes, in a list of words.
package machine

import (
	"thunk/api"
	"thunk/code"
)

// nowhere is what the machine goes on with when no one waits.
const nowhere = -1

type machine struct {
	store
	program   code.Program
	functions []int64 // the addresses of their nodes
	fuel      int
	next      int // the block to go on with
	below     int // how many words of the stack are below the frame
}

// ended is the panic of a run that can't go on, and the kind of its outcome.
type ended int

func giveUp(how ended) { panic(how) }

// Run works out the main of a program, in so many words and with so much fuel.
func Run(program code.Program, words, fuel int) (outcome api.Outcome) {
	m := &machine{program: program, store: newStore(words), fuel: fuel}
	// Who gives up may stand anywhere in the machine: what it had begun, the
	// words and all that waits in them, is given back here.
	defer func() {
		m.store = store{}
		switch reason := recover().(type) {
		case nil:
		case ended:
			outcome = api.Outcome{Kind: int(reason)}
		default:
			panic(reason)
		}
	}()
	m.start()
	m.work()
	return m.outcome()
}

// start lays down the functions, and enters main.
func (m *machine) start() {
	for block := range m.program.Functions {
		m.need(1)
		m.functions = append(m.functions, m.node(header(closure, block, 0)))
	}
	m.need(1)
	m.push(m.functions[m.program.Main])
	m.enter()
}

func (m *machine) work() {
	for m.next != nowhere {
		block := m.program.Blocks[m.next]
		m.below = m.end() - m.top - block.Slots
		for i := range block.Instructions() {
			m.burn()
			m.step(i)
		}
	}
}

func (m *machine) burn() {
	if m.fuel == 0 {
		giveUp(api.OutOfFuel)
	}
	m.fuel--
}

// outcome tells of the value that no one waits for.
func (m *machine) outcome() api.Outcome {
	at := m.address(0)
	head := m.words[at]
	switch kindOf(head) {
	case number:
		return api.Outcome{Kind: api.Number, N: m.words[at+1]}
	case data:
		return api.Outcome{Kind: api.Data, Tag: whatOf(head), Arity: countOf(head)}
	}
	return api.Outcome{Kind: api.Stuck}
}

// step does an instruction.
func (m *machine) step(i code.Instruction) {
	switch i := i.(type) {
	case code.Push:
		m.need(1)
		m.push(m.words[m.slot(i.Slot)])
	case code.PushFunction:
		m.need(1)
		m.push(m.functions[i.Function])
	case code.PushNumber:
		m.pushNumber(i.Value)
	case code.Pack:
		m.build(header(data, i.Tag, i.Count), i.Count)
	case code.Close:
		m.build(header(closure, i.Block, i.Count), i.Count)
	case code.Reserve:
		m.reserve(header(closure, i.Block, i.Count), i.Count)
	case code.Fill:
		copy(m.fields(int(m.words[m.slot(i.Slot)])), m.stack(i.Count))
		m.pop(i.Count)
	case code.Wait:
		m.need(1)
		m.push(mark(proceed, i.Block))
	case code.WaitFunction:
		m.need(1)
		m.push(mark(arguments, i.Count))
	case code.Slide:
		m.slide(i.Count)
	case code.NeedNumber:
		m.numberAt(0)
	case code.Compute:
		m.compute(i.Sign)
	case code.Enter:
		m.enter()
	case code.Jump:
		m.next = i.Block
	case code.Choose:
		m.choose(i.Arms)
	}
}

// bottom is the word behind slot 0 of the frame.
func (m *machine) bottom() int { return m.end() - m.below }

func (m *machine) slot(slot int) int { return m.bottom() - 1 - slot }

func (m *machine) pushNumber(value int64) {
	m.need(3)
	m.push(m.node(header(number, 0, 0), value))
}

// build puts a node in the place of the words that it takes from the stack.
func (m *machine) build(head int64, count int) {
	m.need(count + 2)
	at := m.node(head, m.stack(count)...)
	m.pop(count)
	m.push(at)
}

// reserve makes a node that holds itself until it is filled, since its fields
// must be addresses at all times.
func (m *machine) reserve(head int64, count int) {
	m.need(count + 2)
	at := m.node(head)
	for range count {
		m.words[m.free] = at
		m.free++
	}
	m.push(at)
}

func (m *machine) slide(count int) {
	kept := m.stack(count)
	m.top = m.bottom() - count
	copy(m.words[m.top:], kept)
}
