package lex_test

import (
	"slices"
	"strings"
	"testing"

	"tmplpipe/api"
	"tmplpipe/lex"
)

// formatted checks that the canonical sources of the tokens of a template have the same tokens, with other offsets.
func formatted(t *testing.T, src string) {
	t.Helper()
	before, _, _ := lex.Lex(src)
	canonical := formatAll(before)
	after, n, err := lex.Lex(canonical)
	if err != api.OK || n != len(canonical) || !slices.Equal(withoutOffsets(after), withoutOffsets(before)) {
		t.Fatalf("Lex(%.300q) = %#v, %d, %v after %#v", canonical, after, n, err, before)
	}
	at := 0
	for i, token := range after {
		if token.At != at {
			t.Fatalf("token %d of %.300q is at %d, want %d", i, canonical, token.At, at)
		}
		at += len(lex.Format(token))
	}
	if again := formatAll(after); again != canonical {
		t.Fatalf("the canonical source of %.300q is %.300q", canonical, again)
	}
}

// formatAll returns the concatenated canonical sources of tokens.
func formatAll(tokens []lex.Token) string {
	var b strings.Builder
	for _, token := range tokens {
		b.WriteString(lex.Format(token))
	}
	return b.String()
}

// withoutOffsets returns copies of tokens at offset 0.
func withoutOffsets(tokens []lex.Token) []lex.Token {
	l := slices.Clone(tokens)
	for i := range l {
		l[i].At = 0
	}
	return l
}

func TestFormatOfEachKind(t *testing.T) { // P11.2
	for want, token := range map[string]lex.Token{
		"a":                     {Kind: api.Text, S: "a"},
		" }} {\n\xff":           {Kind: api.Text, S: " }} {\n\xff"},
		"{{.}}":                 {Kind: api.Print, HasPath: true},
		"{{.a.b}}":              {Kind: api.Print, Path: "a.b", HasPath: true},
		"{{if .}}":              {Kind: api.If, HasPath: true},
		"{{if .a}}":             {Kind: api.If, Path: "a", HasPath: true},
		"{{else}}":              {Kind: lex.Else},
		"{{range .}}":           {Kind: api.Range, HasPath: true},
		"{{range .a}}":          {Kind: api.Range, Path: "a", HasPath: true},
		"{{end}}":               {Kind: lex.End},
		"{{define n}}":          {Kind: api.Define, S: "n"},
		"{{call n}}":            {Kind: api.Call, S: "n"},
		"{{call n .}}":          {Kind: api.Call, S: "n", HasPath: true},
		"{{call if .call.a_1}}": {Kind: api.Call, S: "if", Path: "call.a_1", HasPath: true},
		"{{flush}}":             {Kind: api.Flush},
	} {
		for _, at := range []int{0, 1, 77, api.MaxTemplate} {
			token.At = at
			if got := lex.Format(token); got != want {
				t.Fatalf("Format(%v) = %q, want %q", token, got, want)
			}
		}
	}
}

// TestFormatOfSamples formats the tokens of directives that have several spaces at all places.
func TestFormatOfSamples(t *testing.T) { // P11.2, P11.3
	for _, s := range samples() {
		for _, src := range []string{s.source(), "{{  " + strings.Join(s.words, "    ") + "  }}", "{{ " + strings.Join(s.words, " ") + "}}", "{{" + strings.Join(s.words, "  ") + " }}"} {
			tokens, _, err := lex.Lex(src)
			if err != api.OK || len(tokens) != 1 || lex.Format(tokens[0]) != s.source() {
				t.Fatal(src, tokens, err)
			}
			formatted(t, src)
		}
	}
}

// TestFormatOfTemplates formats the tokens of templates with texts of several sorts between directives.
func TestFormatOfTemplates(t *testing.T) { // P11.3
	texts := []string{"", "a", "}", "}}", "}}}", "{x", "{}", " ", "\n", "\xff"}
	for _, s := range samples() {
		loose := "{{ " + strings.Join(s.words, "  ") + "   }}"
		for _, x := range texts {
			for _, y := range append(texts, "{", "{ {") {
				src := x + loose + loose + x + loose + y
				tokens, _, _ := lex.Lex(src)
				if got, want := formatAll(tokens), strings.ReplaceAll(src, loose, s.source()); got != want {
					t.Fatalf("the canonical source of %q is %q, want %q", src, got, want)
				}
				formatted(t, src)
			}
		}
	}
}

func TestFormatOfLongTemplates(t *testing.T) { // P11.3
	for _, piece := range []string{"a", "{{.}}", "{{call  " + longest + "  ." + deepest + "  }}", "}}{{ end }}{ ", "{{ else}}{{flush }}"} {
		formatted(t, strings.Repeat(piece, api.MaxTemplate/len(piece)))
	}
}
