// Package scan cuts a source into its tokens.
package scan

import (
	"iter"
	"strings"

	"thunk/api"
)

// Kind tells what a token is.
type Kind int

const (
	End    Kind = iota // the end of the source, where no token is left
	Bad                // what is no token
	Name               // a word that is no keyword
	Number             // at most api.MaxDigits digits
	Fixed              // a keyword or a sign: the text tells which
)

// Token is a piece of a source, and the place of its first byte. End and Bad
// have no text, so that no text stands for both a token and none.
type Token struct {
	Kind  Kind
	Text  string
	Place int
}

const shortSigns = `=;(){},<>.\+-*/`

// Tokens goes through a source from the left. The last token, and only that
// one, is End or Bad: behind what is no token nothing can be told apart.
func Tokens(source string) iter.Seq[Token] {
	return func(yield func(Token) bool) {
		at := 0
		for {
			at += span(source[at:], isBlank)
			token := first(source[at:])
			token.Place = at
			if !yield(token) || token.Kind == End || token.Kind == Bad {
				return
			}
			at += len(token.Text)
		}
	}
}

// first reads the token with which a text begins.
func first(text string) Token {
	if text == "" {
		return Token{Kind: End}
	}
	if isLetter(rune(text[0])) {
		return word(text[:span(text, isLetterOrDigit)])
	}
	if digits := span(text, isDigit); digits > 0 {
		return number(text[:digits])
	}
	if length := signLength(text); length > 0 {
		return Token{Kind: Fixed, Text: text[:length]}
	}
	return Token{Kind: Bad}
}

func word(text string) Token {
	switch text {
	case "let", "rec", "in", "case", "of":
		return Token{Kind: Fixed, Text: text}
	}
	return Token{Kind: Name, Text: text}
}

func number(digits string) Token {
	if len(digits) > api.MaxDigits {
		return Token{Kind: Bad}
	}
	return Token{Kind: Number, Text: digits}
}

// signLength is 0 where no sign stands. The long signs come first, since a
// token is as long as it can be.
func signLength(text string) int {
	if strings.HasPrefix(text, "->") || strings.HasPrefix(text, "==") {
		return 2
	}
	if strings.IndexByte(shortSigns, text[0]) >= 0 {
		return 1
	}
	return 0
}

// span counts the bytes at the start of a text whose runes all fit.
func span(text string, fits func(rune) bool) int {
	for i, r := range text {
		if !fits(r) {
			return i
		}
	}
	return len(text)
}

func isBlank(r rune) bool { return r == ' ' || r == '\n' }

func isLetter(r rune) bool { return 'a' <= r && r <= 'z' }

func isDigit(r rune) bool { return '0' <= r && r <= '9' }

func isLetterOrDigit(r rune) bool { return isLetter(r) || isDigit(r) }
