package machine

import "thunk/api"

// need gives up if so many words aren't left, and can't be had by clearing the
// heap either. Nodes may stand elsewhere afterwards: so who takes words asks
// for all of them first, while everything it works on is still reached by the
// stack, and looks up addresses only then.
func (m *machine) need(count int) {
	if count <= m.left() {
		return
	}
	m.collect()
	if count > m.left() {
		giveUp(api.OutOfHeap)
	}
}

// collect copies what the stack and the functions reach to the other half. It
// burns no fuel: so a run takes as much of it in any heap.
func (m *machine) collect() {
	m.turn()
	m.bring(m.words[m.top:m.end()])
	m.bring(m.functions)
	// What is copied may hold what is not yet: the copies themselves are the
	// list of what is still to be gone through.
	for at := m.low; at < m.free; at += sizeOf(m.words[at]) {
		m.bring(m.fields(at))
	}
}

// bring copies the nodes at some addresses, and puts in the new addresses.
func (m *machine) bring(words []int64) {
	for i, word := range words {
		if word >= 0 {
			words[i] = m.copyOf(int(word))
		}
	}
}

// copyOf gives the address of a node's copy, which it makes if there is none.
func (m *machine) copyOf(at int) int64 {
	if head := m.words[at]; kindOf(head) == moved {
		// Who held the closure holds its value from now on.
		at = whatOf(head)
	}
	head := m.words[at]
	if kindOf(head) == forward {
		return int64(whatOf(head))
	}
	to := m.node(head, m.words[at+1:at+sizeOf(head)]...)
	m.words[at] = header(forward, int(to), 0)
	return to
}
