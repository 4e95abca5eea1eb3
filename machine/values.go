package machine

import (
	"thunk/api"
	"thunk/code"
)

// enter works out what is on top, or gives it on if it is a value.
func (m *machine) enter() {
	at := m.address(0)
	if head := m.words[at]; kindOf(head) == moved {
		at = whatOf(head)
		m.words[m.top] = int64(at)
	}
	for kindOf(m.words[at]) == busy {
		// Its value is needed to work out its value: that goes on for ever.
		m.burn()
	}
	if m.lacks(at) == 0 {
		m.begin()
		return
	}
	m.giveOn()
}

// lacks tells how many words a closure's frame lacks, or -1 for a value that
// takes none.
func (m *machine) lacks(at int) int {
	head := m.words[at]
	if kindOf(head) != closure {
		return -1
	}
	return m.program.Blocks[whatOf(head)].Slots - countOf(head)
}

// begin works out the closure on top, which waits for its value.
func (m *machine) begin() {
	m.need(1 + countOf(m.words[m.address(0)]))
	at := m.address(0)
	m.push(mark(update, 0))
	m.pushAll(m.fields(at))
	m.next = whatOf(m.words[at])
	m.words[at] = header(busy, 0, 0)
}

// giveOn gives the value on top to those who wait below it, until a block goes
// on or no one is left.
func (m *machine) giveOn() {
	for m.top+1 < m.end() {
		who := m.words[m.top+1]
		switch waiterOf(who) {
		case update:
			m.update()
		case proceed:
			m.words[m.top+1] = m.words[m.top]
			m.pop(1)
			m.next = waitsWith(who)
			return
		case arguments:
			if m.apply(waitsWith(who)) {
				return
			}
		}
	}
	m.next = nowhere
}

// update makes the value known where it was asked for.
func (m *machine) update() {
	value := m.address(0)
	m.words[m.address(2)] = header(moved, value, 0)
	m.pop(2)
	m.words[m.top] = int64(value)
}

// apply gives arguments to the value on top; it tells whether a block goes on,
// since the value had all it lacked.
func (m *machine) apply(count int) bool {
	lacks := m.lacks(m.address(0))
	if lacks < 0 {
		giveUp(api.Stuck)
	}
	if count < lacks {
		m.extend(count)
		return false
	}
	m.call(lacks, count-lacks)
	return true
}

// extend makes a function that has more of its arguments.
func (m *machine) extend(count int) {
	has := countOf(m.words[m.address(0)])
	m.need(1 + has + count)
	at := m.address(0)
	extended := m.node(header(closure, whatOf(m.words[at]), has+count), m.fields(at)...)
	copy(m.words[m.free:], m.stack(2 + count)[2:])
	m.free += count
	m.pop(2 + count)
	m.push(extended)
}

// call goes on with a function's block.
func (m *machine) call(lacks, left int) {
	m.need(countOf(m.words[m.address(0)]))
	at := m.address(0)
	m.pop(2)
	if left > 0 {
		m.leave(lacks, left)
	}
	m.pushAll(m.fields(at))
	m.next = whatOf(m.words[at])
}

// leave lets the arguments behind those that are taken wait for the function
// that comes of it. The mark has room where the one of the call was.
func (m *machine) leave(taken, left int) {
	m.top--
	room := m.stack(taken + 1)
	copy(room, room[1:])
	room[taken] = mark(arguments, left)
}

// choose goes on with the first arm that has the tag of the data on top.
func (m *machine) choose(arms []code.Arm) {
	head := m.words[m.address(0)]
	if kindOf(head) != data {
		giveUp(api.Stuck)
	}
	for _, arm := range arms {
		if arm.Tag == whatOf(head) {
			m.split(arm)
			return
		}
	}
	giveUp(api.Stuck)
}

func (m *machine) split(arm code.Arm) {
	count := countOf(m.words[m.address(0)])
	if arm.Count != count {
		giveUp(api.Stuck)
	}
	m.need(count)
	parts := m.fields(m.address(0))
	m.pop(1)
	m.pushAll(parts)
	m.next = arm.Block
}

// numberAt gives the number at some depth of the stack.
func (m *machine) numberAt(depth int) int64 {
	at := m.address(depth)
	if kindOf(m.words[at]) != number {
		giveUp(api.Stuck)
	}
	return m.words[at+1]
}

func (m *machine) compute(sign string) {
	right, left := m.numberAt(0), m.numberAt(1)
	m.pop(2)
	switch sign {
	case "+":
		m.pushNumber(left + right)
	case "-":
		m.pushNumber(left - right)
	case "*":
		m.pushNumber(left * right)
	case "/":
		if right == 0 {
			giveUp(api.Stuck)
		}
		m.pushNumber(left / right)
	case "<":
		m.pushTruth(left < right)
	case "==":
		m.pushTruth(left == right)
	}
}

func (m *machine) pushTruth(holds bool) {
	tag := 1
	if holds {
		tag = 2
	}
	m.build(header(data, tag, 0), 0)
}
