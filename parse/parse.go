// Package parse reads a program out of the tokens of a source.
package parse

import (
	"strconv"

	"thunk/api"
	"thunk/scan"
	"thunk/tree"
)

// reader goes through tokens, of which the last is End or Bad and is never
// passed. After a failure it stands there, where no rule goes on.
type reader struct {
	tokens []scan.Token
	next   int
	failed bool
	place  int // of the first token that may not stand where it stands
}

// Program reads a source. If that is no program, ok is false, and place is
// that of the first token that may not stand where it stands.
func Program(source string) (program tree.Program, place int, ok bool) {
	r := &reader{tokens: collect(source)}
	for !r.failed && r.token().Kind != scan.End {
		program = append(program, r.function())
	}
	if r.failed {
		return nil, r.place, false
	}
	return program, 0, true
}

func collect(source string) []scan.Token {
	var tokens []scan.Token
	for token := range scan.Tokens(source) {
		tokens = append(tokens, token)
	}
	return tokens
}

func (r *reader) token() scan.Token { return r.tokens[r.next] }

func (r *reader) fail() {
	if !r.failed {
		r.failed = true
		r.place = r.token().Place
	}
	r.next = len(r.tokens) - 1
}

// is asks for a keyword or a sign.
func (r *reader) is(text string) bool { return r.token().Text == text }

func (r *reader) accept(text string) bool {
	if !r.is(text) {
		return false
	}
	r.next++
	return true
}

func (r *reader) expect(text string) {
	if !r.accept(text) {
		r.fail()
	}
}

func (r *reader) name() tree.Name {
	token := r.token()
	if token.Kind != scan.Name {
		r.fail()
		return tree.Name{}
	}
	r.next++
	return tree.Name{Text: token.Text, Place: token.Place}
}

// names reads as many names as stand there, none too.
func (r *reader) names() []tree.Name {
	var list []tree.Name
	for r.token().Kind == scan.Name {
		list = append(list, r.name())
	}
	return list
}

// number reads a number that must be within bounds to stand where it stands.
func (r *reader) number(least, most int) int {
	token := r.token()
	if token.Kind != scan.Number {
		r.fail()
		return 0
	}
	value, err := strconv.Atoi(token.Text)
	if err != nil || value < least || value > most {
		r.fail()
		return 0
	}
	r.next++
	return value
}

func (r *reader) tag() int { return r.number(1, api.MaxTag) }

func (r *reader) function() tree.Function {
	f := tree.Function{Name: r.name(), Params: r.names()}
	r.expect("=")
	f.Body = r.expr(true)
	r.expect(";")
	return f
}
