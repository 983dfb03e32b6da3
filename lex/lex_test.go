package lex_test

import (
	"slices"
	"strings"
	"testing"

	"tmplpipe/api"
	"tmplpipe/lex"
)

// longest is a name that has as many bytes as a name can have, and deepest a path that has as many such names as a path can have.
var (
	longest = strings.Repeat("n", api.MaxName)
	deepest = strings.Repeat(longest+".", api.MaxPath-1) + longest
)

// sample is a directive: its words and its token at offset 0.
type sample struct {
	words []string
	token lex.Token
}

// samples returns directives of every form, with paths and names of several sorts.
func samples() []sample {
	all := []sample{
		{[]string{"else"}, lex.Token{Kind: lex.Else}},
		{[]string{"end"}, lex.Token{Kind: lex.End}},
		{[]string{"flush"}, lex.Token{Kind: api.Flush}},
	}
	names := []string{"n", "if", "call", "flush", "NAME", "A1_b__9", longest}
	paths := []string{"", "a", "a.b", "end", "call.n", "a.a.a", "Z9_.z_.Y", "PATH", longest, deepest}
	for _, path := range paths {
		all = append(all,
			sample{[]string{"." + path}, lex.Token{Kind: api.Print, Path: path, HasPath: true}},
			sample{[]string{"if", "." + path}, lex.Token{Kind: api.If, Path: path, HasPath: true}},
			sample{[]string{"range", "." + path}, lex.Token{Kind: api.Range, Path: path, HasPath: true}},
		)
	}
	for _, name := range names {
		all = append(all,
			sample{[]string{"define", name}, lex.Token{Kind: api.Define, S: name}},
			sample{[]string{"call", name}, lex.Token{Kind: api.Call, S: name}},
		)
		for _, path := range paths {
			all = append(all, sample{[]string{"call", name, "." + path}, lex.Token{Kind: api.Call, S: name, Path: path, HasPath: true}})
		}
	}
	return all
}

// source returns the directive with single spaces between its words.
func (s sample) source() string { return "{{" + strings.Join(s.words, " ") + "}}" }

// at returns the token of the directive at an offset.
func (s sample) at(offset int) lex.Token {
	t := s.token
	t.At = offset
	return t
}

// text returns a token of kind Text.
func text(at int, s string) lex.Token { return lex.Token{Kind: api.Text, At: at, S: s} }

// lexes checks that a source is a template with these tokens.
func lexes(t *testing.T, src string, want ...lex.Token) {
	t.Helper()
	got, n, err := lex.Lex(src)
	if err != api.OK || n != len(src) || !slices.Equal(got, want) {
		t.Fatalf("Lex(%.300q) = %#v, %d, %v; want %#v, %d", src, got, n, err, want, len(src))
	}
}

// rejected checks that Lex returns an offset and an error for a source, and no tokens.
func rejected(t *testing.T, src string, at int, want api.Errno) {
	t.Helper()
	if got, n, err := lex.Lex(src); len(got) > 0 || n != at || err != want {
		t.Fatalf("Lex(%.300q) = %#v, %d, %v; want no tokens, %d, %v", src, got, n, err, at, want)
	}
}

func TestKinds(t *testing.T) { // section Types
	if lex.Else != 7 || lex.End != 8 {
		t.Fatal(lex.Else, lex.End)
	}
}

func TestExamples(t *testing.T) { // P11.1
	lexes(t, "a{{.b}}", text(0, "a"), lex.Token{Kind: api.Print, At: 1, Path: "b", HasPath: true})
	rejected(t, "{{if}}", 0, api.ErrSyntax)
}

func TestEmptySource(t *testing.T) { // P11.1
	lexes(t, "")
}

func TestTextOnly(t *testing.T) { // P11.1
	for _, src := range []string{"a", " ", "   ", "\n", "a b\r\nc", "\x00", "{", "}", "}}", "}}}", "}}}}", "{}", "{}}", "{ {", "{ {.a}}", "{\n{end}}", "a{", "{a",
		"a{b", "{a}", "a}}b", "}}a", "{}{}{", "}{", "}}{", "}{}", "{.a}", "{end}", "{.a}}", "%{end}}", "{\x00{.a}}", "{}{.a}}", "\xff", "\xc3", "a\xffb", "\xe2\x82",
		"\u00e4", "\u20ac", "\U0001f600", "\ufeff", "\xff{", "{\xff{", "\uff5b\uff5b.a\uff5d\uff5d", "<a href=\"x\">{y}</a>", ".a", "if .a", "end"} {
		lexes(t, src, text(0, src))
	}
}

// TestTextOfEachByte has each byte as text: alone, several times, between letters, and around directives.
func TestTextOfEachByte(t *testing.T) { // P11.1
	for c := range 256 {
		b := string([]byte{byte(c)})
		lexes(t, b, text(0, b))
		lexes(t, "a"+b+"z", text(0, "a"+b+"z"))
		lexes(t, "{{end}}"+b, lex.Token{Kind: lex.End}, text(7, b))
		lexes(t, "{{end}}"+b+"a{{end}}", lex.Token{Kind: lex.End}, text(7, b+"a"), lex.Token{Kind: lex.End, At: 9})
		if c == '{' {
			rejected(t, b+b, 0, api.ErrTruncated)
			rejected(t, b+"{{end}}", 0, api.ErrSyntax)
			rejected(t, "{{end}}"+b+"{{end}}", 7, api.ErrSyntax)
			continue
		}
		lexes(t, strings.Repeat(b, 9), text(0, strings.Repeat(b, 9)))
		lexes(t, b+"{{end}}", text(0, b), lex.Token{Kind: lex.End, At: 1})
		lexes(t, "{{end}}"+b+"{{end}}", lex.Token{Kind: lex.End}, text(7, b), lex.Token{Kind: lex.End, At: 8})
	}
}

func TestEachForm(t *testing.T) { // P11.1
	for _, s := range samples() {
		lexes(t, s.source(), s.token)
	}
}

// TestSpaces puts no, one and several spaces before, between and behind the words of a directive.
func TestSpaces(t *testing.T) { // P11.1
	spaces := []string{"", " ", "  ", "     ", strings.Repeat(" ", 300)}
	for _, s := range samples() {
		for _, before := range spaces {
			for _, between := range spaces[1:] {
				for _, behind := range spaces {
					lexes(t, "{{"+before+strings.Join(s.words, between)+behind+"}}", s.token)
				}
			}
		}
		if len(s.words) == 3 {
			lexes(t, "{{"+s.words[0]+"   "+s.words[1]+" "+s.words[2]+"}}", s.token)
			lexes(t, "{{"+s.words[0]+" "+s.words[1]+"  "+s.words[2]+"}}", s.token)
		}
	}
}

// TestNeighbors puts directives next to text, to other directives and to the ends of the source.
func TestNeighbors(t *testing.T) { // P11.1
	before := []string{"", "a", "}}", "{x", "\n", " ", "\xff", "{ "}
	behind := []string{"", "a", "}", "}}", "}}}", "{", "{x", "\n", " ", "\xff"}
	for _, s := range samples() {
		for _, x := range before {
			for _, y := range behind {
				var want []lex.Token
				if x != "" {
					want = append(want, text(0, x))
				}
				if want = append(want, s.at(len(x))); y != "" {
					want = append(want, text(len(x+s.source()), y))
				}
				lexes(t, x+s.source()+y, want...)
			}
		}
	}
}

// TestTwoDirectives has each two directives, with and without text between them.
func TestTwoDirectives(t *testing.T) { // P11.1
	for _, x := range samples() {
		for _, y := range samples() {
			n := len(x.source())
			lexes(t, x.source()+y.source(), x.token, y.at(n))
			lexes(t, x.source()+"} "+y.source(), x.token, text(n, "} "), y.at(n+2))
		}
	}
}

// TestOffsets has many tokens, with texts and directives of all lengths.
func TestOffsets(t *testing.T) { // P11.1
	var want []lex.Token
	src := ""
	for i, s := range samples() {
		if i%3 > 0 {
			piece := strings.Repeat("\xff}x", i)
			want = append(want, text(len(src), piece))
			src += piece
		}
		want = append(want, s.at(len(src)))
		src += s.source()
	}
	lexes(t, src, want...)
	for i, token := range want {
		if i > 0 && token.At <= want[i-1].At {
			t.Fatal(token)
		}
	}
}

// TestClosingBraces has braces behind the first two closing ones, which are text.
func TestClosingBraces(t *testing.T) { // P11.1
	a := lex.Token{Kind: api.Print, Path: "a", HasPath: true}
	end := lex.Token{Kind: lex.End, At: 6}
	for n := 1; n < 9; n++ {
		braces := strings.Repeat("}", n)
		lexes(t, "{{.a}}"+braces, a, text(6, braces))
		end.At = 6 + n
		lexes(t, "{{.a}}"+braces+"{{end}}", a, text(6, braces), end)
	}
	lexes(t, "{{.a}}{", a, text(6, "{"))
	end.At = 8
	lexes(t, "{{.a}}{}{{end}}", a, text(6, "{}"), end)
}

// TestLongSources has sources of MaxTemplate bytes, and of one byte less and more.
func TestLongSources(t *testing.T) { // P11.1
	const most = api.MaxTemplate
	for _, piece := range []string{"a", "}", "\xff", " ", "\x00", "{ "} {
		long := strings.Repeat(piece, most)
		for _, n := range []int{most - 1, most} {
			lexes(t, long[:n], text(0, long[:n]))
		}
		rejected(t, (long + "a")[len(long)-most:], 0, api.ErrTooLong)
	}
	spaces := strings.Repeat(" ", most-6)
	lexes(t, "{{"+spaces+".a}}", lex.Token{Kind: api.Print, Path: "a", HasPath: true})
	lexes(t, "{{.a"+spaces+"}}", lex.Token{Kind: api.Print, Path: "a", HasPath: true})
	lexes(t, "{{if"+spaces[1:]+".}}", lex.Token{Kind: api.If, HasPath: true})
	rejected(t, "{{ "+spaces+".a}}", 0, api.ErrTooLong)
}

// TestManyTokens has as many tokens as a source can have.
func TestManyTokens(t *testing.T) { // P11.1
	var directives, mixed []lex.Token
	for at := 0; at < api.MaxTemplate; at += 8 {
		directives = append(directives, lex.Token{Kind: api.Print, At: at, Path: "abc", HasPath: true})
		mixed = append(mixed, lex.Token{Kind: api.Print, At: at, HasPath: true}, text(at+5, "}{\n"))
	}
	lexes(t, strings.Repeat("{{.abc}}", api.MaxTemplate/8), directives...)
	rejected(t, strings.Repeat("{{.abc}}", api.MaxTemplate/8)+"a", 0, api.ErrTooLong)
	lexes(t, strings.Repeat("{{.}}}{\n", api.MaxTemplate/8), mixed...)
}

// TestResultsAreIndependent changes the tokens of one call, which must not affect another call.
func TestResultsAreIndependent(t *testing.T) { // P2, rule 4
	const src = "a{{.b}}c{{call n .d}}"
	want := []lex.Token{text(0, "a"), {Kind: api.Print, At: 1, Path: "b", HasPath: true}, text(7, "c"), {Kind: api.Call, At: 8, S: "n", Path: "d", HasPath: true}}
	first, _, _ := lex.Lex("x{{end}}y{{if .z}}")
	second, _, _ := lex.Lex(src)
	clear(first[:cap(first)])
	if !slices.Equal(second, want) {
		t.Fatal(second)
	}
	clear(second[:cap(second)])
	lexes(t, src, want...)
}
