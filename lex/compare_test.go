package lex_test

import (
	"regexp"
	"strings"
	"testing"

	"tmplpipe/api"
	"tmplpipe/lex"
)

// The names and paths of chapter 9, and the words that the forms of chapter 11 have in their places.
const (
	nameForm = `[A-Za-z][A-Za-z0-9_]{0,31}`
	pathWord = `\.(?P<path>[^ ]*)`
	nameWord = `(?P<name>[^. ][^ ]*)`
)

var (
	isName      = regexp.MustCompile(`^` + nameForm + `$`)
	isPath      = regexp.MustCompile(`^(` + nameForm + `(\.` + nameForm + `){0,7})?$`)
	isText      = regexp.MustCompile(`(?s)^(.+?)(\{\{|$)`)
	isDirective = regexp.MustCompile(`(?s)^\{\{(.*?)\}\}`)
	shapes      = []shape{
		{api.Print, words(pathWord)}, {api.If, words("if", pathWord)}, {lex.Else, words("else")}, {api.Range, words("range", pathWord)}, {lex.End, words("end")},
		{api.Define, words("define", nameWord)}, {api.Call, words("call", nameWord)}, {api.Call, words("call", nameWord, pathWord)}, {api.Flush, words("flush")},
	}
)

// shape is a form of directives, with what is between their braces.
type shape struct {
	kind    int
	pattern *regexp.Regexp
}

func words(l ...string) *regexp.Regexp {
	return regexp.MustCompile(`(?s)^ *` + strings.Join(l, " +") + ` *$`)
}

// described returns what the chapter says of a source that is not too long.
func described(src string) ([]lex.Token, int, api.Errno) {
	var tokens []lex.Token
	for at := 0; at < len(src); {
		if !strings.HasPrefix(src[at:], "{{") {
			s := isText.FindStringSubmatch(src[at:])[1]
			tokens = append(tokens, text(at, s))
			at += len(s)
			continue
		}
		found := isDirective.FindStringSubmatch(src[at:])
		if found == nil {
			return nil, at, api.ErrTruncated
		}
		token, err := describedDirective(found[1])
		if err != api.OK {
			return nil, at, err
		}
		token.At = at
		tokens = append(tokens, token)
		at += len(found[0])
	}
	return tokens, len(src), api.OK
}

// describedDirective returns what the chapter says of what is between the braces of a directive.
func describedDirective(inner string) (lex.Token, api.Errno) {
	for _, s := range shapes {
		found := s.pattern.FindStringSubmatch(inner)
		if found == nil {
			continue
		}
		token := lex.Token{Kind: s.kind}
		if i := s.pattern.SubexpIndex("name"); i > 0 {
			if token.S = found[i]; !isName.MatchString(token.S) {
				return lex.Token{}, api.ErrName
			}
		}
		if i := s.pattern.SubexpIndex("path"); i > 0 {
			token.HasPath = true
			if token.Path = found[i]; !isPath.MatchString(token.Path) {
				return lex.Token{}, api.ErrName
			}
		}
		return token, api.OK
	}
	return lex.Token{}, api.ErrSyntax
}

// compare compares Lex with what the chapter says of a source and, if it is a template, Format, too.
func compare(t *testing.T, src string) {
	t.Helper()
	want, at, wantErr := described(src)
	if wantErr != api.OK {
		rejected(t, src, at, wantErr)
		return
	}
	lexes(t, src, want...)
	formatted(t, src)
}

// forEachSequence calls f for each sequence of n of the pieces, which it joins.
func forEachSequence(n int, pieces []string, separator string, f func(string)) {
	chosen := make([]string, n)
	var choose func(i int)
	choose = func(i int) {
		if i == n {
			f(strings.Join(chosen, separator))
			return
		}
		for _, piece := range pieces {
			chosen[i] = piece
			choose(i + 1)
		}
	}
	choose(0)
}

// TestBytes compares all sequences of up to seven of the bytes that matter most.
func TestBytes(t *testing.T) { // P11.1, P11.3
	for n := range 8 {
		forEachSequence(n, []string{"{", "}", ".", " ", "a", "1"}, "", func(src string) { compare(t, src) })
	}
}

// TestPieces compares all sequences of up to five pieces of sources.
func TestPieces(t *testing.T) { // P11.1, P11.3
	pieces := []string{"{{", "}}", "{", "}", " ", ".a", ".", "if", "else", "end", "call", "n"}
	for n := range 6 {
		forEachSequence(n, pieces, "", func(src string) { compare(t, src) })
	}
}

// TestWords compares the directives with all sequences of up to three words.
func TestWords(t *testing.T) { // P11.1, P11.3
	words := []string{".", ".a", ".a.b", "..", ".1", ".a.", "." + deepest, "." + deepest + ".a", "a", "1", "_", "a.b", longest, longest + "n", "if", "else", "range", "end", "define",
		"call", "flush", "If", "text", "print", "name", "path", "NAME", "PATH", "{", "}", "{{", "\t", ".\n", "\xff", "\u00e4", "'", ","}
	for n := range 4 {
		forEachSequence(n, words, " ", func(s string) {
			compare(t, "{{"+s+" }}")
			compare(t, "a{{  "+s+"}}b")
		})
	}
	// And a fourth word, behind a first word.
	for _, first := range []string{"if", "else", "range", "end", "define", "call", "flush", ".", ".a"} {
		forEachSequence(3, []string{".", ".a", "a", "1", "..", "end"}, "  ", func(s string) { compare(t, "{{"+first+" "+s+"}}") })
	}
}

// TestEachByte puts each byte, and each two bytes of some, at each place of some directives.
func TestEachByte(t *testing.T) { // P11.1, P11.3
	sources := []string{"{{.}}", "{{.a}}", "{{.a.b}}", "{{if .a}}", "{{else}}", "{{range .a}}", "{{end}}", "{{define n}}", "{{call n}}", "{{call n .a}}", "{{flush}}", "{{ if  .a }}x", "x{{call ab .a.b}}"}
	for _, src := range sources {
		for i := range len(src) + 1 {
			for c := range 256 {
				b := string([]byte{byte(c)})
				compare(t, src[:i]+b+src[i:])
				if i < len(src) {
					compare(t, src[:i]+b+src[i+1:])
				}
			}
			for _, s := range []string{"{{", "}}", "  ", "..", ". ", " .", ".}", "}.", "{.", "\u00a0", "{{end}}", "}} {{", "a.", ".a"} {
				compare(t, src[:i]+s+src[i:])
			}
			compare(t, src[:i]+src[min(i+1, len(src)):])
			compare(t, src[:i])
			compare(t, src[i:])
		}
	}
}

// TestLongSequences compares long sequences of pieces in an irregular order, of which few have a fault.
func TestLongSequences(t *testing.T) { // P11.1, P11.3
	pieces := []string{"a", "}", "}}", "{ ", "\n", "\xff", "{{.}}", "{{ .a }}", "{{if  .a.b}}", "{{else}}", "{{range .c }}", "{{ end}}", "{{define n}}", "{{  call n}}", "{{call n  .a}}", "{{flush}}"}
	faults := []string{"{{ .a  ", "{", "{{.a.}}", "{{call}}"}
	seed := uint32(1)
	next := func(n int) int {
		seed = seed*1664525 + 1013904223
		return int(seed>>16) % n
	}
	for range 3000 {
		var b strings.Builder
		for range next(60) {
			if next(150) == 0 {
				b.WriteString(faults[next(len(faults))])
			} else {
				b.WriteString(pieces[next(len(pieces))])
			}
		}
		compare(t, b.String())
	}
}
