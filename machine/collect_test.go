package machine

import (
	"fmt"
	"math/rand"
	"slices"
	"strings"
	"testing"

	"thunk/api"
	"thunk/code"
	"thunk/compile"
	"thunk/parse"
)

// picture tells what the stack and the functions reach, and how many words the
// nodes have. It numbers these as it meets them, so that two pictures are alike
// wherever the nodes stand.
func picture(t *testing.T, m *machine) (text string, size int) {
	t.Helper()
	var told strings.Builder
	var nodes []int
	tell := func(words []int64) {
		for _, word := range words {
			if word < 0 {
				fmt.Fprint(&told, " ", word)
				continue
			}
			at := int(word)
			if kindOf(m.words[at]) == moved {
				at = whatOf(m.words[at])
			}
			if !slices.Contains(nodes, at) {
				nodes = append(nodes, at)
			}
			fmt.Fprint(&told, " node ", slices.Index(nodes, at))
		}
	}
	tell(m.words[m.top:m.end()])
	tell(m.functions)
	for i := 0; i < len(nodes); i++ {
		at := nodes[i]
		head := m.words[at]
		if at < m.low || at+sizeOf(head) > m.free || kindOf(head) > busy {
			t.Fatalf("a node of kind %d at %d, where nodes stand from %d to %d", kindOf(head), at, m.low, m.free)
		}
		fmt.Fprint(&told, "; ", kindOf(head), whatOf(head), countOf(head))
		if kindOf(head) == number {
			fmt.Fprint(&told, " is ", m.words[at+1])
		}
		tell(m.fields(at))
		size += sizeOf(head)
	}
	return told.String(), size
}

// TestCollectByHand lays down nodes of which two are reached.
func TestCollectByHand(t *testing.T) {
	m := &machine{store: newStore(25)}
	m.node(header(number, 0, 0), 1)
	five := m.node(header(number, 0, 0), 5)
	pair := m.node(header(data, 7, 2), five, five)
	m.push(mark(proceed, 3))
	m.push(pair)
	m.collect()
	want := []int64{header(data, 7, 2), 15, 15, header(number, 0, 0), 5}
	if got := m.words[12:17]; !slices.Equal(got, want) || m.low != 12 || m.free != 17 {
		t.Errorf("copied %d, nodes stand from %d to %d, want %d from 12 to 17", got, m.low, m.free, want)
	}
	if got, want := m.words[m.top:m.end()], []int64{12, mark(proceed, 3)}; !slices.Equal(got, want) {
		t.Errorf("the stack is %d, want %d", got, want)
	}
	if m.words[pair] != header(forward, 12, 0) || m.words[five] != header(forward, 15, 0) {
		t.Errorf("no forwarding addresses in %d", m.words[:12])
	}
}

// TestCollectMoved: the value is held in the place of what was worked out, by
// who held that and by who held the value already.
func TestCollectMoved(t *testing.T) {
	m := &machine{store: newStore(60)}
	held := m.node(header(number, 0, 0), 4)
	worked := m.node(header(closure, 2, 1), held)
	value := m.node(header(number, 0, 0), 9)
	m.words[worked] = header(moved, int(value), 0)
	m.functions = []int64{worked}
	m.push(m.node(header(data, 1, 3), worked, value, worked))
	m.collect()
	nine := m.functions[0]
	if kindOf(m.words[nine]) != number || m.words[nine+1] != 9 || m.left() != 30-4-2-1 {
		t.Errorf("the function is at %d of %d", nine, m.words[m.low:m.free])
	}
	if got := m.fields(m.address(0)); !slices.Equal(got, []int64{nine, nine, nine}) {
		t.Errorf("the parts are at %d, want %d", got, nine)
	}
}

// TestCollectBusy: what is being worked out holds nothing but its place.
func TestCollectBusy(t *testing.T) {
	m := &machine{store: newStore(60)}
	held := m.node(header(number, 0, 0), 4)
	m.push(m.node(header(closure, 0, 2), held, held))
	m.program = code.Program{Blocks: []code.Block{{Slots: 2}}}
	m.begin()
	m.pop(2)
	m.collect()
	if m.left() != 30-2-1 || kindOf(m.words[m.address(1)]) != busy {
		t.Errorf("%d words are left, nodes are %d", m.left(), m.words[m.low:m.free])
	}
}

// someMachine has nodes at random, some of them in rings, and a stack.
func someMachine(random *rand.Rand) *machine {
	m := &machine{store: newStore(2000 + random.Intn(2))}
	if random.Intn(2) == 0 {
		m.turn()
	}
	var nodes, values []int64
	for range 1 + random.Intn(60) {
		count := random.Intn(4)
		head := header([]kind{data, closure}[random.Intn(2)], random.Intn(99), count)
		words := make([]int64, count)
		if random.Intn(3) == 0 {
			head, words = header(number, 0, 0), []int64{random.Int63n(4000) - 2000}
		}
		node := m.node(head, words...)
		nodes = append(nodes, node)
		values = append(values, node)
	}
	pick := func() int64 { return nodes[random.Intn(len(nodes))] }
	for _, node := range nodes {
		for i := range m.fields(int(node)) {
			m.fields(int(node))[i] = pick()
		}
	}
	for range random.Intn(5) {
		nodes = append(nodes, m.node(header(busy, 0, 0)))
		nodes = append(nodes, m.node(header(moved, int(values[random.Intn(len(values))]), 0)))
	}
	for range random.Intn(20) {
		m.push([]int64{pick(), pick(), mark(update, 0), mark(arguments, random.Intn(9))}[random.Intn(4)])
	}
	for range random.Intn(3) {
		m.functions = append(m.functions, pick())
	}
	return m
}

func TestCollectAtRandom(t *testing.T) {
	random := rand.New(rand.NewSource(8))
	for range 3000 {
		m := someMachine(random)
		for range 3 {
			before, size := picture(t, m)
			m.collect()
			after, _ := picture(t, m)
			if after != before {
				t.Fatalf("%q became %q", before, after)
			}
			if m.free-m.low != size {
				t.Fatalf("%d words are held of %q, want %d", m.free-m.low, before, size)
			}
		}
	}
}

// TestNeed: the heap is cleared just if it must be, and what can't be had then
// is given up.
func TestNeed(t *testing.T) {
	for _, c := range []struct {
		count, low int
		out        bool
	}{
		{0, 0, false},
		{4, 0, false},
		{5, 10, false},
		{6, 10, false},
		{7, 10, true},
	} {
		m := &machine{store: newStore(20)}
		m.node(header(number, 0, 0), 1)
		m.push(m.node(header(data, 1, 2), 2, 2))
		out := givesUp(func() { m.need(c.count) })
		if m.low != c.low || out != c.out {
			t.Errorf("need(%d) of %d: the half at %d, out of heap: %v", c.count, 4, m.low, out)
		}
	}
}

func givesUp(work func()) (out bool) {
	defer func() { out = recover() == ended(api.OutOfHeap) }()
	work()
	return false
}

// runCramped runs a program with no word left ahead of any instruction, so that
// each that takes words clears the heap.
func runCramped(t *testing.T, program code.Program, words int) (outcome api.Outcome) {
	t.Helper()
	m := &machine{program: program, store: newStore(words), fuel: api.MaxFuel}
	defer func() {
		switch reason := recover().(type) {
		case nil:
		case ended:
			outcome = api.Outcome{Kind: int(reason)}
		default:
			panic(reason)
		}
	}()
	m.start()
	for m.next != nowhere {
		block := m.program.Blocks[m.next]
		m.below = m.end() - m.top - block.Slots
		for i := range block.Instructions() {
			m.free = m.top
			m.step(i)
			if m.left() < 0 {
				t.Fatalf("%T took %d words that weren't left", i, -m.left())
			}
			picture(t, m)
		}
	}
	return m.outcome()
}

func TestCollectAtEachInstruction(t *testing.T) {
	for _, source := range []string{
		"main = 1 + 2 * 3;",
		"f a b c = a * 100 + b * 10 + c; g = f 1; main = g 2 3 + (f 4 5) 6;",
		"f a b = \\c d. \\e. a + b * c - d * e; main = f 1 2 3 4 5 + (f 6 7 8) 9 1;",
		"main = {7,3} (1 / 0) 3 main;",
		"p = {7,3} 1; main = case p 2 3 of <7> a b c -> p a (b - c);",
		"main = let rec a = {2,2} 1 b; b = {2,2} 2 a in case a of <2> h t -> case t of <2> i u -> case u of <2> j v -> h * 100 + i * 10 + j;",
		"main = let rec f = \\n. case n == 0 of <2> -> 0; <1> -> n + g (n - 1); g = \\n. f n in f 5;",
		"main = let x = 2 + 3; z = 1 / 0 in let y = {1,1} x in let z = x; x = y in case x of <1> a -> a * z;",
		"up n = case n == 0 of <2> -> {1,0}; <1> -> {2,2} n (up (n - 1)); size l = case l of <1> -> 0; <2> h t -> 1 + size t; main = let l = up 6 in size l + size l;",
		"down n x y = case n == 0 of <2> -> x - y; <1> -> down (n - 1) y x; main = down 7 (1 + 1) (2 + 2);",
		"t f x = f (f x); i n = n + 1; main = t t t i 0;",
		"y f = f (y f); main = y (\\s n. case n == 0 of <2> -> 0; <1> -> n + s (n - 1)) 5;",
		"main = (\\x. 3) 1 2;",
		"main = 10 + (let x = 2 in (\\y. x * y) 7) / 0;",
	} {
		tree, _, ok := parse.Program(source)
		if !ok {
			t.Fatalf("%q is no program", source)
		}
		program := compile.Program(tree)
		want := Run(program, api.MaxHeap, api.MaxFuel)
		answered := 0
		for words := 0; answered < 40 && words < 2000; words++ {
			got := runCramped(t, program, words)
			if got != Run(program, words, api.MaxFuel) {
				t.Fatalf("%q in %d words: %+v, but not if it is cleared less often", source, words, got)
			}
			if got == want {
				answered++
			} else if answered > 0 || got != (api.Outcome{Kind: api.OutOfHeap}) {
				t.Fatalf("%q in %d words: %+v, want %+v", source, words, got, want)
			}
		}
		if answered == 0 || want.Kind > api.Stuck {
			t.Errorf("%q: %+v, answered in %d heaps", source, want, answered)
		}
	}
}
