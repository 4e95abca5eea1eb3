package thunk

import (
	"math/rand"
	"slices"
	"strings"
	"testing"

	"thunk/api"
)

// The document's grammar, without what may be missing. It reads every source
// that has a reading at all, whatever a ; belongs to. In small letters stand
// the tokens, but for the names of the rules.
const rules = `
Program = Line | Program Line
Line = name = Expr ; | name Names = Expr ;
Names = name | Names name
Expr = let Binds in Expr | let rec Binds in Expr | case Expr of Arms | \ Names . Expr | Test
Binds = Bind | Binds ; Bind
Bind = name = Expr
Arms = Arm | Arms ; Arm
Arm = < tag > -> Expr | < tag > Names -> Expr
Test = Sum | Sum == Sum | Sum < Sum
Sum = Product | Sum + Product | Sum - Product
Product = Call | Product * Call | Product / Call
Call = Atom | Call Atom
Atom = name | number | { tag , arity } | ( Expr )
`

type rule struct {
	head string
	body []string
}

func readRules() []rule {
	var list []rule
	for _, line := range strings.Split(strings.TrimSpace(rules), "\n") {
		head, bodies, _ := strings.Cut(line, " = ")
		for _, body := range strings.Split(bodies, " | ") {
			list = append(list, rule{head, strings.Fields(body)})
		}
	}
	return list
}

func isRule(symbol string) bool { return symbol[0] >= 'A' && symbol[0] <= 'Z' }

// reads tells whether a token may be what a rule asks for.
func reads(symbol, token string) bool {
	switch symbol {
	case "name":
		return slices.Contains([]string{"main", "x", "y2"}, token)
	case "number":
		return token[0] >= '0' && token[0] <= '9'
	case "tag":
		return slices.Contains([]string{"1", "9", "99", "10"}, token)
	case "arity":
		return slices.Contains([]string{"0", "1", "9"}, token)
	}
	return symbol == token
}

// item is a rule of which some is read, and where that began.
type item struct{ rule, dot, from int }

// earley keeps for each place between tokens all the ways to read what is
// ahead of it, and so knows which tokens may stand there.
type earley struct {
	rules []rule
	sets  [][]item
}

func newEarley() *earley {
	e := &earley{rules: readRules()}
	var first []item
	for i, r := range e.rules {
		if r.head == "Program" {
			first = append(first, item{i, 0, 0})
		}
	}
	e.sets = append(e.sets, first)
	e.close()
	return e
}

func (e *earley) asked(i item) string {
	if body := e.rules[i.rule].body; i.dot < len(body) {
		return body[i.dot]
	}
	return ""
}

// close adds to the last set what its items begin and what they end.
func (e *earley) close() {
	last := len(e.sets) - 1
	for k := 0; k < len(e.sets[last]); k++ {
		i := e.sets[last][k]
		symbol := e.asked(i)
		if symbol == "" {
			for _, j := range e.sets[i.from] {
				if e.asked(j) == e.rules[i.rule].head {
					e.add(item{j.rule, j.dot + 1, j.from})
				}
			}
		} else if isRule(symbol) {
			for j, r := range e.rules {
				if r.head == symbol {
					e.add(item{j, 0, last})
				}
			}
		}
	}
}

func (e *earley) add(i item) {
	last := len(e.sets) - 1
	if !slices.Contains(e.sets[last], i) {
		e.sets[last] = append(e.sets[last], i)
	}
}

func (e *earley) mayStand(token string) bool {
	return slices.ContainsFunc(e.sets[len(e.sets)-1], func(i item) bool {
		symbol := e.asked(i)
		return symbol != "" && !isRule(symbol) && reads(symbol, token)
	})
}

func (e *earley) read(token string) {
	var next []item
	for _, i := range e.sets[len(e.sets)-1] {
		if symbol := e.asked(i); symbol != "" && !isRule(symbol) && reads(symbol, token) {
			next = append(next, item{i.rule, i.dot + 1, i.from})
		}
	}
	e.sets = append(e.sets, next)
	e.close()
}

func (e *earley) mayEnd() bool {
	if len(e.sets) == 1 {
		return true
	}
	return slices.ContainsFunc(e.sets[len(e.sets)-1], func(i item) bool {
		return i.from == 0 && e.asked(i) == "" && e.rules[i.rule].head == "Program"
	})
}

var vocabulary = []string{"main", "x", "y2", "0", "1", "9", "10", "99", "100", "let", "rec", "in", "case", "of", "=", ";", "(", ")", "{", "}", ",", "<", ">", ".", `\`, "+", "-", "*", "/", "->", "=="}

// rare are the tokens that end things or lead nowhere new: taken as often as
// the rest they would keep the sources flat.
var rare = []string{"+", "-", "*", "/", "0", "9", "10", "99", "x", "y2", "{"}

func nextToken(random *rand.Rand, e *earley) string {
	for {
		token := vocabulary[random.Intn(len(vocabulary))]
		if slices.Contains(rare, token) && random.Intn(4) > 0 {
			continue
		}
		if e.mayStand(token) || random.Intn(300) == 0 {
			return token
		}
	}
}

// TestCheckAgainstTheGrammar holds the place of ErrText against a reading of
// the grammar that follows all ways at once.
func TestCheckAgainstTheGrammar(t *testing.T) {
	random := rand.New(rand.NewSource(3))
	faults, programs, ends := 0, 0, 0
	for range 3000 {
		e := newEarley()
		source := ""
		for len(source) < 150 {
			token := nextToken(random, e)
			place := len(source)
			source += token
			if !e.mayStand(token) {
				holdCheck(t, []answer{{source, api.ErrText, place}})
				faults++
				break
			}
			e.read(token)
			errno, at := Check(source)
			if e.mayEnd() {
				programs++
				if errno == api.ErrText {
					t.Fatalf("P2: Check(%q) = %d, %d, and it is a program", source, errno, at)
				}
			} else {
				ends++
				if errno != api.ErrText || at != len(source) {
					t.Fatalf("P2: Check(%q) = %d, %d, and more must come", source, errno, at)
				}
			}
			source += " "
		}
	}
	if faults < 500 || programs < 500 || ends < 5000 {
		t.Errorf("too few sources of a kind: %d, %d, %d", faults, programs, ends)
	}
}

// TestCheckEachTokenAtEachPlace puts every token behind every beginning of
// sources in which all rules of the grammar are at work.
func TestCheckEachTokenAtEachPlace(t *testing.T) {
	for _, whole := range []string{
		"main x = let x = 1 ; y2 = case x < 1 of < 1 > x y2 -> ( case 1 of < 1 > -> { 1 , 0 } x ; < 9 > -> let rec x = 1 in x ) ; x = 0 in \\ x y2 . x + 1 * 9 == 0 ; x = 1 ;",
		"main = case case 1 of < 1 > -> 1 ; < 9 > -> 1 of < 1 > -> case 1 of < 9 > -> let x = case 1 of < 1 > -> 1 ; < 9 > -> 1 ; y2 = 1 in case 1 of < 1 > x -> 1 ; < 9 > -> 0 ; x = 1 ;",
		"main = ( let x = ( 1 ) in case 1 of < 1 > -> \\ x . case x of < 1 > -> 1 ; < 9 > -> 1 ) ;",
		"main = let x = case case 1 of < 1 > -> 1 ; < 1 > -> let x = 1 in x of < 1 > -> 1 ; x = 1 in 1 ;",
	} {
		e := newEarley()
		source := ""
		for _, good := range strings.Fields(whole) {
			for _, token := range vocabulary {
				errno, at := Check(source + token)
				if fault := errno == api.ErrText && at == len(source); fault == e.mayStand(token) {
					t.Errorf("P2: Check(%q) = %d, %d, and the last token may stand: %v", source+token, errno, at, e.mayStand(token))
				}
			}
			e.read(good)
			source += good + " "
		}
		if !e.mayEnd() {
			t.Errorf("no program: %q", whole)
		}
	}
}
