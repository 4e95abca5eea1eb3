package scan

import (
	"slices"
	"strings"
	"testing"
)

// written tells tokens in one text: kind, place and text of each.
func written(source string) string {
	marks := []string{"end", "bad", "name", "number", "fixed"}
	var list []string
	for token := range Tokens(source) {
		list = append(list, marks[token.Kind]+"@"+string(rune('0'+token.Place))+":"+token.Text)
	}
	return strings.Join(list, " ")
}

func TestTokens(t *testing.T) {
	for _, c := range []struct{ source, want string }{
		{"", "end@0:"},
		{" \n ", "end@3:"},
		{"x", "name@0:x end@1:"},
		{" a1b\nc ", "name@1:a1b name@5:c end@7:"},
		{"let2 let", "name@0:let2 fixed@5:let end@8:"},
		{"rec in", "fixed@0:rec fixed@4:in end@6:"},
		{"case of", "fixed@0:case fixed@5:of end@7:"},
		{"2x", "number@0:2 name@1:x end@2:"},
		{"00", "number@0:00 end@2:"},
		{"123456789", "number@0:123456789 end@9:"},
		{"1234567890", "bad@0:"},
		{"0000000001", "bad@0:"},
		{"->", "fixed@0:-> end@2:"},
		{"- >", "fixed@0:- fixed@2:> end@3:"},
		{"-->", "fixed@0:- fixed@1:-> end@3:"},
		{">->", "fixed@0:> fixed@1:-> end@3:"},
		{"===", "fixed@0:== fixed@2:= end@3:"},
		{"= =", "fixed@0:= fixed@2:= end@3:"},
		{"=;(){", "fixed@0:= fixed@1:; fixed@2:( fixed@3:) fixed@4:{ end@5:"},
		{"},<>.", "fixed@0:} fixed@1:, fixed@2:< fixed@3:> fixed@4:. end@5:"},
		{`\+-*/`, `fixed@0:\ fixed@1:+ fixed@2:- fixed@3:* fixed@4:/ end@5:`},
		{"x !y", "name@0:x bad@2:"},
		{"xY", "name@0:x bad@1:"},
		{"x\u00e9", "name@0:x bad@1:"},
		{"x\u0663", "name@0:x bad@1:"},
		{"1\u0663", "number@0:1 bad@1:"},
		{"x\xff", "name@0:x bad@1:"},
		{"\xe9", "bad@0:"},
		{"x\ty", "name@0:x bad@1:"},
		{"x\ry", "name@0:x bad@1:"},
		{"x\x00y", "name@0:x bad@1:"},
		{"x\u00a0y", "name@0:x bad@1:"},
	} {
		if got := written(c.source); got != c.want {
			t.Errorf("Tokens(%q) = %s, want %s", c.source, got, c.want)
		}
	}
}

func TestEachByteAlone(t *testing.T) {
	for b := range 256 {
		want := Bad
		switch {
		case b == ' ' || b == '\n':
			want = End
		case 'a' <= b && b <= 'z':
			want = Name
		case '0' <= b && b <= '9':
			want = Number
		case strings.IndexByte(`=;(){},<>.\+-*/`, byte(b)) >= 0:
			want = Fixed
		}
		for token := range Tokens(string([]byte{byte(b)})) {
			if token.Kind != want {
				t.Errorf("byte %d begins a token of kind %d, want %d", b, token.Kind, want)
			}
			break
		}
	}
}

func TestTokensStopsWhenAsked(t *testing.T) {
	var seen []string
	for token := range Tokens("a b c") {
		seen = append(seen, token.Text)
		if token.Text == "b" {
			break
		}
	}
	if !slices.Equal(seen, []string{"a", "b"}) {
		t.Errorf("seen %q", seen)
	}
}
