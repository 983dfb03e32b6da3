package parse_test

import (
	"slices"
	"strings"
	"testing"

	"tmplpipe/api"
	"tmplpipe/lex"
	"tmplpipe/parse"
)

// openBlock is a block that is open while the tokens of a source are read.
type openBlock struct {
	kind, at int
	hasElse  bool
}

// describedFault returns what the chapter says of the faults of a source: the length of the source and OK if it has none.
func describedFault(src string) (int, api.Errno) {
	tokens, at, err := lex.Lex(src)
	if err != api.OK {
		return at, err
	}
	var open []openBlock // the outermost first
	nodes := 0
	for _, t := range tokens {
		if err := faultOf(t, open, nodes); err != api.OK {
			return t.At, err
		}
		switch t.Kind {
		case lex.Else:
			open[len(open)-1].hasElse = true
		case lex.End:
			open = open[:len(open)-1]
		default:
			nodes++
			if slices.Contains([]int{api.If, api.Range, api.Define}, t.Kind) {
				open = append(open, openBlock{kind: t.Kind, at: t.At})
			}
		}
	}
	if len(open) > 0 {
		return open[len(open)-1].at, api.ErrTruncated
	}
	return len(src), api.OK
}

// faultOf returns what the chapter says of a token behind a number of nodes.
func faultOf(t lex.Token, open []openBlock, nodes int) api.Errno {
	switch t.Kind {
	case lex.Else:
		if len(open) == 0 {
			return api.ErrNesting
		}
		if innermost := open[len(open)-1]; innermost.kind != api.If || innermost.hasElse {
			return api.ErrNesting
		}
		return api.OK
	case lex.End:
		if len(open) == 0 {
			return api.ErrNesting
		}
		return api.OK
	case api.Define:
		if len(open) > 0 {
			return api.ErrNesting
		}
	case api.If, api.Range:
		if len(open) >= api.MaxNest {
			return api.ErrNesting
		}
	}
	if nodes >= api.MaxNodes {
		return api.ErrLimit
	}
	return api.OK
}

// flat returns the tokens from which nodes come. No two lists of nodes have the same, if they have only fields that
// nodes of their kinds can have.
func flat(l []api.Node) []lex.Token {
	var tokens []lex.Token
	for _, n := range l {
		tokens = append(tokens, lex.Token{Kind: n.Kind, At: n.At, S: n.S, Path: n.Path, HasPath: n.HasPath})
		if n.Kind != api.If && n.Kind != api.Range && n.Kind != api.Define {
			continue
		}
		tokens = append(tokens, flat(n.Body)...)
		if n.HasElse {
			tokens = append(append(tokens, lex.Token{Kind: lex.Else}), flat(n.Else)...)
		}
		tokens = append(tokens, lex.Token{Kind: lex.End})
	}
	return tokens
}

// compare compares the result for a source with what the chapter says.
func compare(t *testing.T, src string) {
	t.Helper()
	if at, err := describedFault(src); err != api.OK {
		rejected(t, src, at, err)
		return
	}
	got, n, err := parse.Parse(src)
	if err != api.OK || n != len(src) {
		t.Fatalf("Parse(%.300q) = %s, %d, %v; want %d", src, shown(got), n, err, len(src))
	}
	lawful(t, src, got)
	tokens, _, _ := lex.Lex(src)
	for i, token := range tokens {
		if token.Kind == lex.Else || token.Kind == lex.End {
			tokens[i].At = 0 // which no node has
		}
	}
	if !slices.Equal(flat(got), tokens) {
		t.Fatalf("Parse(%.300q) = %s", src, shown(got))
	}
}

// forEachSequence calls f for each sequence of n of the pieces.
func forEachSequence(n int, pieces []string, f func(string)) {
	if n == 0 {
		f("")
		return
	}
	forEachSequence(n-1, pieces, func(s string) {
		for _, piece := range pieces {
			f(s + piece)
		}
	})
}

// TestAllSequences compares all sequences of up to five directives and texts of all forms.
func TestAllSequences(t *testing.T) { // P12.1 to P12.3
	t.Parallel()
	pieces := []string{"a", "{{.}}", "{{if .a}}", "{{else}}", "{{range .b.c}}", "{{end}}", "{{define d}}", "{{call d}}", "{{call d .e}}", "{{flush}}", "{{if}}"}
	for n := range 6 {
		forEachSequence(n, pieces, func(src string) { compare(t, src) })
	}
}

// TestAllBlocks compares all sequences of up to seven directives with which blocks begin and end.
func TestAllBlocks(t *testing.T) { // P12.1 to P12.3
	t.Parallel()
	for n := range 8 {
		forEachSequence(n, []string{"{{if .}}", "{{else}}", "{{end}}", "{{range .}}", "{{define n}}"}, func(src string) { compare(t, src) })
	}
}

// TestTextInBlocks compares all sequences of up to seven pieces of templates with Ifs.
func TestTextInBlocks(t *testing.T) { // P12.1 to P12.3
	t.Parallel()
	for n := range 8 {
		forEachSequence(n, []string{"{{if .}}", "{{else}}", "{{end}}", "x", "{{.}}"}, func(src string) { compare(t, src) })
	}
}

// TestBehindOpenBlocks compares all sequences of up to three pieces behind as many open blocks as possible, and behind some less.
func TestBehindOpenBlocks(t *testing.T) { // P12.1 to P12.3
	t.Parallel()
	for depth := api.MaxNest - 2; depth <= api.MaxNest; depth++ {
		for _, around := range nestings(depth) {
			for n := range 4 {
				forEachSequence(n, []string{"x", "{{if .}}", "{{else}}", "{{end}}", "{{range .}}", "{{define n}}"}, func(src string) {
					compare(t, around[0]+src)
					compare(t, around[0]+src+around[1])
				})
			}
		}
	}
}

// TestBehindManyNodes compares all sequences of up to two pieces behind MaxNodes - 1 nodes, some of them open blocks.
func TestBehindManyNodes(t *testing.T) { // P12.1 to P12.3
	t.Parallel()
	pieces := []string{"x", "{{.}}", "{{if .}}", "{{else}}", "{{end}}", "{{range .}}", "{{define n}}"}
	const nodes = api.MaxNodes - 1
	for _, before := range []string{
		many(nodes), many(nodes-1) + "{{if .}}", many(nodes-1) + "{{if .}}{{else}}", many(nodes-1) + "{{define n}}",
		many(nodes-api.MaxNest) + strings.Repeat("{{if .}}", api.MaxNest),
	} {
		for n := range 3 {
			forEachSequence(n, pieces, func(src string) { compare(t, before+src) })
		}
	}
}

// TestIrregular compares long sequences of directives in an irregular order, most of which are templates when they end.
func TestIrregular(t *testing.T) { // P12.1 to P12.3
	t.Parallel()
	pieces := []string{"a", "{{.}}", "{{ .a }}", "{{call n}}", "{{call n  .a}}", "{{flush}}", "\n"}
	seed := uint32(1)
	next := func(n int) int {
		seed = seed*1664525 + 1013904223
		return int(seed>>16) % n
	}
	templates := 0
	for range 3000 {
		var b strings.Builder
		var ends []string // of the open blocks
		for range next(120) {
			switch choice := next(20); {
			case choice < 3 && (len(ends) < api.MaxNest || next(20) == 0):
				b.WriteString([]string{"{{if .a}}", "{{if .b}}x{{else}}", "{{range .c}}"}[choice])
				ends = append(ends, []string{"{{else}}{{end}}", "{{end}}", "{{ end }}"}[choice])
			case choice < 5 && len(ends) > 0:
				b.WriteString(ends[len(ends)-1])
				ends = ends[:len(ends)-1]
			case choice == 5 && len(ends) == 0:
				b.WriteString("{{define n}}")
				ends = append(ends, "{{end}}")
			case choice == 6 && next(60) == 0:
				b.WriteString([]string{"{{else}}", "{{end}}", "{{define n}}", "{{if .a}}", "{{if}}"}[next(5)])
			default:
				b.WriteString(pieces[next(len(pieces))])
			}
			if next(40) == 0 {
				compare(t, b.String())
			}
		}
		slices.Reverse(ends)
		src := b.String() + strings.Join(ends, "")
		compare(t, src)
		if _, _, err := parse.Parse(src); err == api.OK {
			templates++
		}
	}
	if templates < 1000 {
		t.Fatal(templates)
	}
}
