package lex_test

import (
	"strings"
	"testing"

	"tmplpipe/api"
	"tmplpipe/lex"
)

// formless are directives whose words have no form.
func formless() []string {
	all := []string{"{{}}", "{{ }}", "{{      }}"}
	for _, words := range []string{
		// words of which none is a first word, alone
		"a", "A", "1", "_", "else.", "text", "Text", "print", "print .a", "define.", "name", "NAME", "PATH", "name .a", "call.n", "n", "*", "-", "/*", "\"a\"",
		"endif", "ends", "en", "elseif .a", "elsif .a", "iff .a", "i .a", "ranges .a", "defin n", "calls n", "flushed", "if.a", "range.a", "a.b", "a.",
		// first words in other cases
		"If .a", "IF .a", "iF .a", "Else", "ELSE", "Range .a", "RANGE .a", "End", "END", "Define n", "DEFINE n", "Call n", "CALL n", "Call n .a", "Flush", "FLUSH",
		// too few words
		"if", "range", "define", "call",
		// too many words
		".a .b", ". .", ".a b", ".a if", ".a end", "if .a .b", "if .a b", "if .a else", "if . .", "range .a .b", "range .a b", "else else", "else .a", "else if .a",
		"else n", "end end", "end .a", "end n", "end if", "define n n", "define n .a", "define n .", "call n .a .b", "call n .a b", "call n n", "call n n .a",
		"call n . .", "flush .a", "flush n", "flush flush",
		// a word that must be a path without its period, and one that must be a name with it
		"if a", "if a.b", "if if", "if -", "range a", "range a.b", "range end", "call n a", "call n a.b", "call n n.", "define .a", "define .", "define .a.b", "define ..",
		"call .a", "call .", "call .a .b", "call .a n", "call . .", "call .n .a",
		// other orders
		".a if", ".a range", "n define", "n call", "call .a n", "n call .a", ".a call n", ".a n call",
	} {
		all = append(all, "{{"+words+"}}", "{{ "+strings.ReplaceAll(words, " ", "   ")+"  }}")
	}
	return all
}

// noNames are words that are neither names nor begin with a period.
func noNames() []string {
	return []string{"0", "9", "1a", "_", "_a", "-", "a-b", "a.b", "a.", "n..", "a,", "*", "{", "}", "}a", "a}", "{a", "{{", "n{{", "\"n\"", "$a", "a$", "a/b", "a[0]",
		"a\n", "\na", "a\tb", "\t", "a\r", "a\x00", "\x00", "\u00e4", "a\u00e4", "\u0430", "\xff", "a\xff", "a\xc3", "\u00a0", "a\u00a0", "a\u2003b",
		longest + "n", strings.Repeat("n", 100), longest[1:] + "\xff", longest[1:] + "\u00e4"}
}

// noPaths are words that begin with a period and are no paths.
func noPaths() []string {
	all := []string{"..", "...", ".a.", "..a", ".a..b", ".a.b.", "..a.b", ".a...b", "." + deepest + ".a", "." + deepest + ".", "." + deepest + "n",
		strings.Repeat(".a", api.MaxPath+1), strings.Repeat(".a", 1000), ".n" + deepest, "." + deepest + ".."}
	for _, s := range noNames() {
		if s != "a.b" { // which is a path
			all = append(all, "."+s, ".a."+s, "."+s+".a", ".a."+s+".b", "."+longest+"."+s)
		}
	}
	return all
}

// nameless are directives that have a form, and of which a path or a name is not valid.
func nameless() []string {
	var all []string
	for _, path := range noPaths() {
		all = append(all, "{{"+path+" }}", "{{if "+path+" }}", "{{range  "+path+" }}", "{{ call n "+path+" }}")
	}
	for _, name := range noNames() {
		all = append(all, "{{define "+name+" }}", "{{call "+name+" }}", "{{call "+name+" .}}", "{{ call  "+name+"  .a.b  }}", "{{call "+name+" .1}}", "{{call "+name+" ..}}")
	}
	return all
}

func TestNoForm(t *testing.T) { // P11.1
	for _, directive := range formless() {
		rejected(t, directive, 0, api.ErrSyntax)
		rejected(t, "ab{{end}}"+directive+"{{end}}c", 9, api.ErrSyntax)
	}
}

func TestNoName(t *testing.T) { // P11.1
	for _, directive := range nameless() {
		rejected(t, directive, 0, api.ErrName)
		rejected(t, "ab{{end}}"+directive+"{{end}}c", 9, api.ErrName)
	}
}

// TestNameLimits has paths and names of every length, and paths of every number of names.
func TestNameLimits(t *testing.T) { // P11.1
	for n := 1; n < api.MaxName+4; n++ {
		name := strings.Repeat("n", n)
		for _, words := range []string{"define " + name, "call " + name, "call " + name + " .a", "." + name, "if .a." + name, "range ." + name + ".a", "call n ." + name} {
			if _, _, err := lex.Lex("{{" + words + "}}"); (err == api.OK) != (n <= api.MaxName) || err != api.OK && err != api.ErrName {
				t.Fatal(words, err)
			}
		}
	}
	for n := range api.MaxPath + 4 {
		path := "." + strings.TrimPrefix(strings.Repeat(".a", n), ".")
		for _, words := range []string{path, "if " + path, "range " + path, "call n " + path} {
			if _, _, err := lex.Lex("{{" + words + "}}"); (err == api.OK) != (n <= api.MaxPath) || err != api.OK && err != api.ErrName {
				t.Fatal(words, err)
			}
		}
	}
}

// TestEmptyPath has the word that is only a period: the path is the empty string, and there is one.
func TestEmptyPath(t *testing.T) { // P11.1
	lexes(t, "{{.}}", lex.Token{Kind: api.Print, HasPath: true})
	lexes(t, "{{if .}}", lex.Token{Kind: api.If, HasPath: true})
	lexes(t, "{{range .}}", lex.Token{Kind: api.Range, HasPath: true})
	lexes(t, "{{call n .}}", lex.Token{Kind: api.Call, S: "n", HasPath: true})
	lexes(t, "{{call n}}", lex.Token{Kind: api.Call, S: "n"})
}

// TestOtherWhiteSpace has white space other than spaces at every place of a directive, where it is part of a word.
func TestOtherWhiteSpace(t *testing.T) { // P11.1
	for _, c := range []string{"\t", "\n", "\v", "\f", "\r", "\r\n", "\x00", "\u0085", "\u00a0", "\u1680", "\u2003", "\u2028", "\u3000", "\ufeff", "\xa0", "\x85"} {
		for src, want := range map[string]api.Errno{
			"{{_}}": api.ErrSyntax, "{{_.a}}": api.ErrSyntax, "{{.a_}}": api.ErrName, "{{.a_.b}}": api.ErrName, "{{._a}}": api.ErrName, "{{_ .a}}": api.ErrSyntax,
			"{{.a _}}": api.ErrSyntax, "{{if_.a}}": api.ErrSyntax, "{{if_ .a}}": api.ErrSyntax, "{{_if .a}}": api.ErrSyntax, "{{if _.a}}": api.ErrSyntax, "{{if .a_}}": api.ErrName,
			"{{if _ .a}}": api.ErrSyntax, "{{if .a _}}": api.ErrSyntax, "{{range_.a}}": api.ErrSyntax, "{{range _.a}}": api.ErrSyntax, "{{range .a_}}": api.ErrName,
			"{{else_}}": api.ErrSyntax, "{{_else}}": api.ErrSyntax, "{{else _}}": api.ErrSyntax, "{{end_}}": api.ErrSyntax, "{{_end}}": api.ErrSyntax, "{{_ end}}": api.ErrSyntax,
			"{{define_n}}": api.ErrSyntax, "{{define n_}}": api.ErrName, "{{define _n}}": api.ErrName, "{{define n _}}": api.ErrSyntax, "{{define _}}": api.ErrName,
			"{{call_n}}": api.ErrSyntax, "{{call n_}}": api.ErrName, "{{call _n}}": api.ErrName, "{{call n_.a}}": api.ErrName, "{{call n _.a}}": api.ErrSyntax, "{{call _n .a}}": api.ErrName,
			"{{call n .a_}}": api.ErrName, "{{call n _}}": api.ErrSyntax, "{{call n _ .a}}": api.ErrSyntax, "{{flush_}}": api.ErrSyntax, "{{_flush}}": api.ErrSyntax,
		} {
			rejected(t, strings.ReplaceAll(src, "_", c), 0, want)
		}
	}
}

func TestBraces(t *testing.T) { // P11.1
	for src, want := range map[string]api.Errno{
		// more than two opening braces: the others belong to the first word
		"{{{.a}}": api.ErrSyntax, "{{{.a}}}": api.ErrSyntax, "{{{{.a}}}}": api.ErrSyntax, "{{{{.a}}": api.ErrSyntax, "{{{end}}": api.ErrSyntax, "{{{ end}}": api.ErrSyntax,
		"{{ {end}}": api.ErrSyntax, "{{{}}": api.ErrSyntax, "{{{{}}": api.ErrSyntax, "{{{}}}": api.ErrSyntax, "{{{{}}}}": api.ErrSyntax, "{{{if .a}}": api.ErrSyntax,
		// opening braces inside
		"{{.a{{.b}}": api.ErrName, "{{.a {{.b}}": api.ErrSyntax, "{{ {{.b}}": api.ErrSyntax, "{{if {{.a}}": api.ErrSyntax, "{{if .a{{end}}": api.ErrName,
		"{{if .a{}}": api.ErrName, "{{.{a}}": api.ErrName, "{{call n{{.a}}": api.ErrName, "{{call n {{.a}}": api.ErrSyntax, "{{define n {{end}}": api.ErrSyntax,
		"{{end{{end}}": api.ErrSyntax, "{{.a{{.b}}}}": api.ErrName, "{{call {{ .a}}": api.ErrName, "{{if .{{ }}": api.ErrName, "{{.{{}}": api.ErrName,
		// a single closing brace inside
		"{{.a}b}}": api.ErrName, "{{.a} }}": api.ErrName, "{{.a }b}}": api.ErrSyntax, "{{} }}": api.ErrSyntax, "{{}.a}}": api.ErrSyntax, "{{end} }}": api.ErrSyntax,
		"{{end }a}}": api.ErrSyntax, "{{.} }}": api.ErrName, "{{call }n}}": api.ErrName, "{{call n }.a}}": api.ErrSyntax,
		// nothing between the braces
		"{{}}": api.ErrSyntax, "{{}}}": api.ErrSyntax, "{{}}}}": api.ErrSyntax, "{{}}.a}}": api.ErrSyntax, "{{ }}}": api.ErrSyntax,
		// no closing braces
		"{{": api.ErrTruncated, "{{{": api.ErrTruncated, "{{{{": api.ErrTruncated, "{{}": api.ErrTruncated, "{{ }": api.ErrTruncated, "{{ } }": api.ErrTruncated,
		"{{.a": api.ErrTruncated, "{{.a ": api.ErrTruncated, "{{.a}": api.ErrTruncated, "{{.a} }": api.ErrTruncated, "{{.a} ": api.ErrTruncated, "{{end": api.ErrTruncated,
		"{{end}": api.ErrTruncated, "{{end} } } }": api.ErrTruncated, "{{.a{{.b": api.ErrTruncated, "{{.a\xff": api.ErrTruncated, "{{.a{{.b}": api.ErrTruncated,
	} {
		rejected(t, src, 0, want)
		rejected(t, "a"+src, 1, want)
		rejected(t, "{a"+src, 2, want)
		rejected(t, "}}"+src, 2, want)
		rejected(t, "{{end}}"+src, 7, want)
		rejected(t, "{{.a}}}"+src, 7, want)
	}
	// A third brace in front does not turn the first one into text.
	rejected(t, "a{{{.b}}", 1, api.ErrSyntax)
	rejected(t, "{{end}}{{{end}}", 7, api.ErrSyntax)
	lexes(t, "{a{{.b}}", text(0, "{a"), lex.Token{Kind: api.Print, At: 2, Path: "b", HasPath: true})
}

// TestTruncated cuts off each directive at each place.
func TestTruncated(t *testing.T) { // P11.1
	for _, s := range samples() {
		src := s.source()
		for n := 2; n < len(src); n++ {
			rejected(t, src[:n], 0, api.ErrTruncated)
			rejected(t, "{{.a}}\n"+src[:n], 7, api.ErrTruncated)
		}
		lexes(t, src[:1], text(0, "{"))
		lexes(t, src[:0])
	}
}

// TestSeveralFaults has directives with several faults, of which the first one that the chapter mentions counts.
func TestSeveralFaults(t *testing.T) { // P11.1, rule 1
	for _, directive := range append(formless(), nameless()...) {
		rejected(t, strings.TrimSuffix(directive, "}}"), 0, api.ErrTruncated)
		rejected(t, strings.TrimSuffix(directive, "}"), 0, api.ErrTruncated)
	}
	for _, words := range []string{".1 .2", ".1 a", ".. end", "if .1 .2", "if .1 a", "if ..  .a", "range .1 .a", "range .a ..", "else .1", "end ..", "flush .1", "define 1 2",
		"define 1 .a", "define .1", "define ..", "define _ _", "call .1", "call .. .1", "call 1 a", "call 1 2", "call 1 a.b", "call 1 .a .b", "call n .1 .2", "call n .. a",
		"call .1 .a", "call .1 a", "if 1", "if 1.2", "range a..b", "call n 1", "call n a..b", "If .1", "END ..", "Define 1", "CALL 1 ..", "1 ..", "x .1", "x 1", "if\t.1"} {
		rejected(t, "{{"+words+"}}", 0, api.ErrSyntax)
	}
	for _, words := range []string{"call 1 .1", "call _ ..", "call a.b .a.", "call " + longest + "n ." + deepest + "n"} {
		rejected(t, "{{"+words+"}}", 0, api.ErrName)
	}
}

// TestSeveralFaultyDirectives has faulty directives of which the first one counts.
func TestSeveralFaultyDirectives(t *testing.T) { // P11.1
	faulty := map[string]api.Errno{"{{}}": api.ErrSyntax, "{{if}}": api.ErrSyntax, "{{x}}": api.ErrSyntax, "{{define .a}}": api.ErrSyntax,
		"{{.1}}": api.ErrName, "{{if ..}}": api.ErrName, "{{call 1}}": api.ErrName, "{{define a.b}}": api.ErrName}
	last := map[string]api.Errno{"{{": api.ErrTruncated, "{{if": api.ErrTruncated, "{{.1}": api.ErrTruncated}
	for before := range faulty {
		last[before] = faulty[before]
	}
	for x, want := range faulty {
		for y := range last {
			for _, between := range []string{"", "a", "{{end}}", "}}", "{{.a}} {{flush}}"} {
				rejected(t, x+between+y, 0, want)
				rejected(t, "{{.a}} {x}"+x+between+y, 10, want)
				rejected(t, "{{.a}} {x}"+between+y, 10+len(between), last[y])
			}
		}
	}
	// What follows an unclosed directive closes it.
	rejected(t, "{{.a{{.1}}", 0, api.ErrName)
	rejected(t, "{{if .a {{end}}", 0, api.ErrSyntax)
}

// TestFaultsInLongSources has faulty directives at the ends of sources of MaxTemplate bytes, and of more.
func TestFaultsInLongSources(t *testing.T) { // P11.1
	for directive, want := range map[string]api.Errno{"{{if}}": api.ErrSyntax, "{{..}}": api.ErrName, "{{.a} ": api.ErrTruncated} {
		fill := strings.Repeat("a", api.MaxTemplate-len(directive))
		rejected(t, fill+directive, len(fill), want)
		rejected(t, "b"+fill+directive, 0, api.ErrTooLong)
		rejected(t, directive+fill+"b", 0, api.ErrTooLong)
		rejected(t, directive+strings.Repeat(fill, 20), 0, api.ErrTooLong)
		if want != api.ErrTruncated {
			rejected(t, directive+fill, 0, want)
		}
	}
	rejected(t, strings.Repeat("{", api.MaxTemplate), 0, api.ErrTruncated)
	rejected(t, strings.Repeat("{", api.MaxTemplate-2)+"}}", 0, api.ErrSyntax)
	rejected(t, "{{"+strings.Repeat(" ", api.MaxTemplate-4)+"}}", 0, api.ErrSyntax)
	rejected(t, "{{"+strings.Repeat("a ", api.MaxTemplate/2-2)+"}}", 0, api.ErrSyntax)
	rejected(t, "{{"+strings.Repeat(". ", api.MaxTemplate/2-2)+"}}", 0, api.ErrSyntax)
	rejected(t, "{{"+strings.Repeat(".a", api.MaxTemplate/2-2)+"}}", 0, api.ErrName)
	rejected(t, "{{call "+strings.Repeat("n", api.MaxTemplate-9)+"}}", 0, api.ErrName)
	rejected(t, strings.Repeat("x", api.MaxTemplate-1)+"{{", 0, api.ErrTooLong)
	rejected(t, strings.Repeat("x", api.MaxTemplate-2)+"{{", api.MaxTemplate-2, api.ErrTruncated)
	rejected(t, "{{.a"+strings.Repeat("}", api.MaxTemplate-3), 0, api.ErrTooLong)
}
