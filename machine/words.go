package machine

// kind tells what a node is. A node is a header and, behind it, words: for all
// but a number these are addresses of other nodes.
type kind int

const (
	number  kind = iota // its value stands behind the header
	data                // a tag, and its parts
	closure             // a block, and the words with which its frame begins
	busy                // a closure that is being worked out
	moved               // a closure that was worked out, and the address of its value
	forward             // a node that was copied, and the address of the copy
)

const (
	kindBits  = 4
	countBits = 12 // a source of api.MaxSource bytes has fewer names
)

// header has all that is told of a node in one word; what is a tag, a block or
// an address, as the kind asks.
func header(k kind, what, count int) int64 {
	return int64(what)<<(kindBits+countBits) | int64(count)<<kindBits | int64(k)
}

func kindOf(head int64) kind { return kind(head & (1<<kindBits - 1)) }

func countOf(head int64) int { return int(head >> kindBits & (1<<countBits - 1)) }

func whatOf(head int64) int { return int(head >> (kindBits + countBits)) }

// sizeOf gives how many words a node has, the header among them.
func sizeOf(head int64) int {
	if kindOf(head) == number {
		return 2
	}
	return 1 + countOf(head)
}

// waiter tells who waits on the stack, above the words that it keeps.
type waiter int

const (
	update    waiter = iota // a closure, to have its value
	proceed                 // a block, to go on with the value
	arguments               // arguments, to be given to the value
)

const waiterBits = 2

// mark is the word of a waiter. It is below 0, as no address is, so that the
// stack can be told apart.
func mark(w waiter, what int) int64 { return ^(int64(what)<<waiterBits | int64(w)) }

func waiterOf(mark int64) waiter { return waiter(^mark & (1<<waiterBits - 1)) }

func waitsWith(mark int64) int { return int(^mark >> waiterBits) }

// store is the list of words, cut in two halves. One of them is in use: nodes
// are laid into it from its low end on, the stack grows down from its high end.
// The other one is spare until the collector turns them about.
type store struct {
	words []int64
	half  int // how many words a half has
	low   int // the first word of the half in use
	free  int // the first word that no node has
	top   int // the topmost word of the stack
}

func newStore(size int) store {
	half := size / 2
	return store{words: make([]int64, size), half: half, top: half}
}

// end is the word behind the half in use, where the stack begins.
func (s *store) end() int { return s.low + s.half }

func (s *store) left() int { return s.top - s.free }

// turn takes the spare half, with no nodes in it yet, but with the same stack.
func (s *store) turn() {
	old := s.words[s.top:s.end()]
	s.low = s.half - s.low
	s.free = s.low
	s.top = s.end() - len(old)
	copy(s.words[s.top:], old)
}

func (s *store) push(word int64) {
	s.top--
	s.words[s.top] = word
}

func (s *store) pushAll(words []int64) {
	s.top -= len(words)
	copy(s.words[s.top:], words)
}

func (s *store) pop(count int) { s.top += count }

// stack gives the topmost words, the top first.
func (s *store) stack(count int) []int64 { return s.words[s.top : s.top+count] }

func (s *store) address(depth int) int { return int(s.words[s.top+depth]) }

// node lays down a node, and gives its address.
func (s *store) node(head int64, words ...int64) int64 {
	at := s.free
	s.words[at] = head
	copy(s.words[at+1:], words)
	s.free += 1 + len(words)
	return int64(at)
}

// fields gives what stands behind the header of a node that is no number.
func (s *store) fields(at int) []int64 {
	return s.words[at+1 : at+1+countOf(s.words[at])]
}
