package parse_test

import (
	"fmt"
	"slices"
	"strings"
	"testing"

	"tmplpipe/api"
	"tmplpipe/lex"
	"tmplpipe/parse"
)

// parses checks that a source is a template with these nodes.
func parses(t *testing.T, src string, want ...api.Node) {
	t.Helper()
	got, n, err := parse.Parse(src)
	if err != api.OK || n != len(src) || !same(got, want) {
		t.Fatalf("Parse(%.300q) = %s, %d, %v; want %s, %d", src, shown(got), n, err, shown(want), len(src))
	}
	lawful(t, src, got)
}

// shown returns the beginning of the text of nodes.
func shown(l []api.Node) string { return fmt.Sprintf("%.900s", fmt.Sprintf("%+v", l)) }

// same reports whether two lists of nodes have equal fields, recursively.
func same(a, b []api.Node) bool {
	return slices.EqualFunc(a, b, func(x, y api.Node) bool {
		return x.Kind == y.Kind && x.At == y.At && x.S == y.S && x.Path == y.Path && x.HasPath == y.HasPath && x.HasElse == y.HasElse &&
			same(x.Body, y.Body) && same(x.Else, y.Else)
	})
}

// preorder calls visit for each node and the number of blocks that contain it.
func preorder(l []api.Node, blocks int, visit func(n api.Node, blocks int)) {
	for _, n := range l {
		visit(n, blocks)
		preorder(n.Body, blocks+1, visit)
		preorder(n.Else, blocks+1, visit)
	}
}

// lawful checks what each parsed template has.
func lawful(t *testing.T, src string, l []api.Node) { // P12.2, P12.3
	t.Helper()
	count, nest, last := 0, 0, -1
	preorder(l, 0, func(n api.Node, blocks int) {
		if n.At <= last || n.At >= len(src) {
			t.Fatalf("offset %d after %d in %.300q", n.At, last, src)
		}
		last = n.At
		isBlock := slices.Contains([]int{api.If, api.Range, api.Define}, n.Kind)
		if isBlock {
			blocks++
		}
		if len(n.Body) > 0 && !isBlock || len(n.Else) > 0 && !n.HasElse || n.HasElse && n.Kind != api.If {
			t.Fatalf("%+v in %.300q", n, src)
		}
		count++
		nest = max(nest, blocks)
	})
	if count > api.MaxNodes || nest > api.MaxNest {
		t.Fatalf("%d nodes, depth %d in %.300q", count, nest, src)
	}
	if c, n := parse.Count(l), parse.Nest(l); c != count || n != nest {
		t.Fatalf("Count, Nest = %d, %d of %.300q; want %d, %d", c, n, src, count, nest)
	}
}

func text(at int, s string) api.Node { return api.Node{Kind: api.Text, At: at, S: s} }

func printed(at int, path string) api.Node {
	return api.Node{Kind: api.Print, At: at, Path: path, HasPath: true}
}

func call(at int, name string) api.Node { return api.Node{Kind: api.Call, At: at, S: name} }

func flush(at int) api.Node { return api.Node{Kind: api.Flush, At: at} }

func ifNode(at int, path string, body ...api.Node) api.Node {
	return api.Node{Kind: api.If, At: at, Path: path, HasPath: true, Body: body}
}

// ifElse has in Else the nodes behind the first n.
func ifElse(at int, path string, n int, nodes ...api.Node) api.Node {
	return api.Node{Kind: api.If, At: at, Path: path, HasPath: true, HasElse: true, Body: nodes[:n], Else: nodes[n:]}
}

func rangeNode(at int, path string, body ...api.Node) api.Node {
	return api.Node{Kind: api.Range, At: at, Path: path, HasPath: true, Body: body}
}

func define(at int, name string, body ...api.Node) api.Node {
	return api.Node{Kind: api.Define, At: at, S: name, Body: body}
}

func TestExamples(t *testing.T) { // P12.1
	parses(t, "{{if .a}}x{{else}}y{{end}}", ifElse(0, "a", 1, text(9, "x"), text(18, "y")))
	rejected(t, "x{{end}}", 1, api.ErrNesting)
}

func TestEmptySource(t *testing.T) { // P12.1, P12.2
	parses(t, "")
}

// TestEachKind has a node of every kind, with all its fields.
func TestEachKind(t *testing.T) { // P12.1
	parses(t, "a", text(0, "a"))
	parses(t, " }}{\xff\n<b>", text(0, " }}{\xff\n<b>"))
	parses(t, "{{.}}", api.Node{Kind: api.Print, HasPath: true})
	parses(t, "{{ .a.b }}", api.Node{Kind: api.Print, Path: "a.b", HasPath: true})
	parses(t, "{{if .}}{{end}}", api.Node{Kind: api.If, HasPath: true})
	parses(t, "{{if .a}}{{end}}", api.Node{Kind: api.If, Path: "a", HasPath: true})
	parses(t, "{{if .a}}{{else}}{{end}}", api.Node{Kind: api.If, Path: "a", HasPath: true, HasElse: true})
	parses(t, "{{range .}}{{end}}", api.Node{Kind: api.Range, HasPath: true})
	parses(t, "{{range  .a.b.c}}{{end}}", api.Node{Kind: api.Range, Path: "a.b.c", HasPath: true})
	parses(t, "{{call f}}", api.Node{Kind: api.Call, S: "f"})
	parses(t, "{{call f .}}", api.Node{Kind: api.Call, S: "f", HasPath: true})
	parses(t, "{{call f .a}}", api.Node{Kind: api.Call, S: "f", Path: "a", HasPath: true})
	parses(t, "{{flush}}", api.Node{Kind: api.Flush})
	parses(t, "{{define f}}{{end}}", api.Node{Kind: api.Define, S: "f"})
}

// TestAllKindsInEachList has a node of every kind at the top level and in each part of each block.
func TestAllKindsInEachList(t *testing.T) { // P12.1
	inner := "x{{.a}}{{if .b}}{{end}}{{range .c}}{{end}}{{call f}}{{call g .d}}{{flush}}y"
	nodes := func(at int) []api.Node {
		withPath := call(at+52, "g")
		withPath.Path, withPath.HasPath = "d", true
		return []api.Node{text(at, "x"), printed(at+1, "a"), ifNode(at+7, "b"), rangeNode(at+23, "c"), call(at+42, "f"), withPath, flush(at + 65), text(at+74, "y")}
	}
	parses(t, inner, nodes(0)...)
	parses(t, "{{define h}}{{end}}"+inner, append([]api.Node{define(0, "h")}, nodes(19)...)...)
	parses(t, "{{if .z}}"+inner+"{{end}}", ifNode(0, "z", nodes(9)...))
	parses(t, "{{if .z}}"+inner+"{{else}}{{end}}", ifElse(0, "z", 8, nodes(9)...))
	parses(t, "{{if .z}}{{else}}"+inner+"{{end}}", ifElse(0, "z", 0, nodes(17)...))
	parses(t, "{{if .z}}"+inner+"{{else}}"+inner+"{{end}}", ifElse(0, "z", 8, append(nodes(9), nodes(92)...)...))
	parses(t, "{{range .z}}"+inner+"{{end}}", rangeNode(0, "z", nodes(12)...))
	parses(t, "{{define z}}"+inner+"{{end}}", define(0, "z", nodes(12)...))
}

func TestBlocksNextToOneAnother(t *testing.T) { // P12.1
	parses(t, "{{if .a}}x{{end}}{{if .b}}y{{end}}", ifNode(0, "a", text(9, "x")), ifNode(17, "b", text(26, "y")))
	parses(t, "{{range .a}}x{{end}}{{define f}}{{.}}{{end}}{{if .b}}{{else}}z{{end}}w",
		rangeNode(0, "a", text(12, "x")), define(20, "f", printed(32, "")), ifElse(44, "b", 0, text(61, "z")), text(69, "w"))
	parses(t, "{{define f}}{{end}}{{define f}}{{end}}", define(0, "f"), define(19, "f"))
	parses(t, "{{range .}}{{if .}}{{end}}{{range .}}{{end}}{{if .}}{{end}}{{end}}", rangeNode(0, "", ifNode(11, ""), rangeNode(26, ""), ifNode(44, "")))
}

func TestBlocksInOneAnother(t *testing.T) { // P12.1
	parses(t, "{{if .a}}{{if .b}}{{if .c}}x{{end}}{{end}}{{end}}", ifNode(0, "a", ifNode(9, "b", ifNode(18, "c", text(27, "x")))))
	parses(t, "{{range .a}}1{{range .b}}2{{range .c}}3{{end}}4{{end}}5{{end}}6",
		rangeNode(0, "a", text(12, "1"), rangeNode(13, "b", text(25, "2"), rangeNode(26, "c", text(38, "3")), text(46, "4")), text(54, "5")), text(62, "6"))
	parses(t, "{{define f}}{{range .a}}{{if .b}}{{flush}}{{end}}{{end}}{{end}}{{call f}}",
		define(0, "f", rangeNode(12, "a", ifNode(24, "b", flush(33)))), call(63, "f"))
}

// TestElseBelongsToTheInnermostIf has several Ifs and Elses.
func TestElseBelongsToTheInnermostIf(t *testing.T) { // P12.1
	parses(t, "{{if .a}}{{if .b}}{{else}}x{{end}}{{end}}", ifNode(0, "a", ifElse(9, "b", 0, text(26, "x"))))
	parses(t, "{{if .a}}{{if .b}}{{end}}{{else}}x{{end}}", ifElse(0, "a", 1, ifNode(9, "b"), text(33, "x")))
	parses(t, "{{if .a}}1{{else}}{{if .b}}2{{else}}3{{end}}4{{end}}5",
		ifElse(0, "a", 1, text(9, "1"), ifElse(18, "b", 1, text(27, "2"), text(36, "3")), text(44, "4")), text(52, "5"))
	parses(t, "{{if .a}}{{if .b}}1{{else}}2{{end}}{{else}}{{if .c}}3{{else}}4{{end}}{{end}}",
		ifElse(0, "a", 1, ifElse(9, "b", 1, text(18, "1"), text(27, "2")), ifElse(43, "c", 1, text(52, "3"), text(61, "4"))))
	parses(t, "{{if .a}}{{range .b}}{{end}}{{else}}{{range .c}}x{{end}}y{{end}}",
		ifElse(0, "a", 1, rangeNode(9, "b"), rangeNode(36, "c", text(48, "x")), text(56, "y")))
}

// opener opens a block in which the nodes behind it are, and closer closes it.
type opener struct {
	kind           int
	opener, closer string
}

// openers returns ways to be in a block that can be in another one.
func openers() []opener {
	return []opener{
		{api.If, "{{if .a}}", "{{end}}"}, {api.If, "{{if .a}}", "{{else}}{{end}}"}, {api.If, "{{if .a}}{{else}}", "{{end}}"},
		{api.If, "{{if .a}}x{{else}}y", "z{{end}}"}, {api.Range, "{{range .a}}", "{{end}}"}, {api.Range, "x{{range .a}}y", "z{{end}}w"},
	}
}

// nestings returns openers for n blocks and what closes these: blocks of one sort and mixed ones, also in a definition.
func nestings(n int) [][2]string {
	var all [][2]string
	add := func(choose func(i int) opener) {
		before, behind := "", ""
		for i := range n {
			o := choose(i)
			before, behind = before+o.opener, o.closer+behind
		}
		all = append(all, [2]string{before, behind})
	}
	sorts := openers()
	definition := opener{api.Define, "{{define n}}", "{{end}}"}
	for k, o := range sorts {
		add(func(int) opener { return o })
		add(func(i int) opener { return sorts[(i+k)%len(sorts)] })
		add(func(i int) opener {
			if i == 0 {
				return definition
			}
			return sorts[(i*i+k)%len(sorts)]
		})
	}
	return all
}

// TestDeepNesting has blocks nested up to MaxNest deep, of each kind.
func TestDeepNesting(t *testing.T) { // P12.1, P12.3
	for n := 1; n <= api.MaxNest; n++ {
		for _, around := range nestings(n) {
			for _, inner := range []string{"", "x", "{{.}}", "{{flush}}{{call f}}", "{{else}}"} {
				src := around[0] + inner + around[1]
				compare(t, src)
				if l, _, err := parse.Parse(src); err != api.OK && inner != "{{else}}" || err == api.OK && parse.Nest(l) != n {
					t.Fatal(src, parse.Nest(l), err)
				}
			}
		}
	}
}

// TestDepthIsThatOfOpenBlocks has many blocks next to one another at the greatest depth.
func TestDepthIsThatOfOpenBlocks(t *testing.T) { // P12.1
	for _, around := range nestings(api.MaxNest - 1) {
		for _, o := range openers() {
			src := around[0] + strings.Repeat(o.opener+"x"+o.closer, 9) + around[1]
			compare(t, src+src)
			if l, _, err := parse.Parse(src + src); err != api.OK || parse.Nest(l) != api.MaxNest {
				t.Fatal(src, err)
			}
		}
	}
}

// TestDeepestTree has the whole tree of MaxNest blocks, whose depth is that of the text in the innermost one.
func TestDeepestTree(t *testing.T) { // P12.1
	src := strings.Repeat("{{if .a}}", 16) + strings.Repeat("{{range .}}", 16) + "x" + strings.Repeat("{{end}}", 16) + strings.Repeat("{{else}}y{{end}}", 16)
	inner := []api.Node{text(9*16+11*16, "x")}
	for i := range 16 {
		inner = []api.Node{rangeNode(9*16+11*(15-i), "", inner...)}
	}
	end := 9*16 + 11*16 + 1 + 7*16
	for i := range 16 {
		inner = []api.Node{ifElse(9*(15-i), "a", 1, inner[0], text(end+8+16*i, "y"))}
	}
	parses(t, src, inner...)
}

// many returns a source with n nodes, of all kinds, in blocks of all kinds, that ends with a directive.
func many(n int) string {
	var b strings.Builder
	pieces := []struct {
		source string
		nodes  int
	}{
		{"a{{if .}}{{.}}{{else}}b{{end}}", 4}, {"c{{call f}}", 2}, {"{{range .}}{{if .}}d{{end}}{{end}}", 3}, {"{{flush}}", 1}, {"{{define f}}e{{call g .}}{{end}}", 3}, {"{{.a}}", 1},
	}
	for i := 0; n > 0; i++ {
		if piece := pieces[i%len(pieces)]; piece.nodes <= n {
			b.WriteString(piece.source)
			n -= piece.nodes
		}
	}
	return b.String()
}

// TestMostNodes has MaxNodes nodes and fewer, of each kind and mixed, at the top level and in blocks.
func TestMostNodes(t *testing.T) { // P12.1, P12.3
	for _, n := range []int{api.MaxNodes - 1, api.MaxNodes} {
		for _, src := range []string{
			strings.Repeat("a{{.}}", n/2) + strings.Repeat("{{flush}}", n%2), strings.Repeat("{{if .}}{{end}}", n), strings.Repeat("{{call f}}", n), strings.Repeat("{{flush}}", n),
			"{{range .}}" + strings.Repeat("{{.}}", n-1) + "{{end}}", "{{define f}}" + strings.Repeat("{{.}}", n-1) + "{{end}}",
			"{{if .}}" + strings.Repeat("{{.}}", n/2) + "{{else}}" + strings.Repeat("{{.}}", (n-1)/2) + "{{end}}",
			strings.Repeat("{{range .}}x{{end}}", n/2) + strings.Repeat("{{.}}", n%2), strings.Repeat("{{define f}}x{{end}}", n/2) + strings.Repeat("{{.}}", n%2),
			many(n), "{{if .}}{{else}}" + strings.ReplaceAll(many(n-1), "{{define f}}", "{{range .}}") + "{{end}}",
		} {
			compare(t, src)
			if l, at, err := parse.Parse(src); err != api.OK || at != len(src) || parse.Count(l) != n {
				t.Fatalf("%d nodes, want %d; %d, %v, %.100q", parse.Count(l), n, at, err, src)
			}
		}
	}
}

// TestEndsBehindTheLastNode has Else and End directives behind MaxNodes nodes, since they are no nodes.
func TestEndsBehindTheLastNode(t *testing.T) { // P12.1
	parses(t, "{{if .}}"+strings.Repeat("{{.}}", api.MaxNodes-1)+"{{else}}{{end}}", ifElse(0, "", api.MaxNodes-1, prints(8, api.MaxNodes-1)...))
	parses(t, "{{if .}}"+strings.Repeat("{{.}}", api.MaxNodes-1)+"{{end}}", ifNode(0, "", prints(8, api.MaxNodes-1)...))
	parses(t, "{{range .}}"+strings.Repeat("{{.}}", api.MaxNodes-1)+"{{end}}", rangeNode(0, "", prints(11, api.MaxNodes-1)...))
	deep := strings.Repeat("{{if .}}", api.MaxNest) + strings.Repeat("{{.}}", api.MaxNodes-api.MaxNest) + strings.Repeat("{{else}}{{end}}", api.MaxNest)
	compare(t, deep)
	if l, _, err := parse.Parse(deep); err != api.OK || parse.Count(l) != api.MaxNodes || parse.Nest(l) != api.MaxNest {
		t.Fatal(parse.Count(l), parse.Nest(l), err)
	}
}

// prints returns n Print nodes, five bytes apart.
func prints(at, n int) []api.Node {
	l := make([]api.Node, n)
	for i := range l {
		l[i] = printed(at+5*i, "")
	}
	return l
}

// TestLongestSource has a template of MaxTemplate bytes.
func TestLongestSource(t *testing.T) { // P12.1
	long := strings.Repeat("x", api.MaxTemplate-16)
	parses(t, "{{if .a}}"+long+"{{end}}", ifNode(0, "a", text(9, long)))
	rejected(t, "{{if .a}}"+long+"{{end}}x", 0, api.ErrTooLong)
}

// TestMostTokens has as many tokens as a source can have, which are more than there can be nodes.
func TestMostTokens(t *testing.T) { // P12.1
	rejected(t, strings.Repeat("{{.}}", api.MaxTemplate/5), 5*api.MaxNodes, api.ErrLimit)
	rejected(t, strings.Repeat("{{.}}a", api.MaxTemplate/6), 3*api.MaxNodes, api.ErrLimit)
}

// TestFieldsAreThoseOfTokens relies on package lex for the fields of nodes.
func TestFieldsAreThoseOfTokens(t *testing.T) { // P12.1
	for src, end := range map[string]string{
		"a": "", "{{.}}": "", "{{ .a.b.c.d.e.f.g.h }}": "", "{{if   .x}}": "{{end}}", "{{range .if}}": "{{end}}", "{{call else}}": "", "{{call end .end}}": "",
		"{{call n .}}": "", "{{ flush }}": "", "{{define define}}": "{{end}}",
	} {
		for _, before := range []string{"", "{{.}}"} {
			tokens, _, _ := lex.Lex(before + src)
			want := tokens[len(tokens)-1]
			parses(t, before+src+end, append(prints(0, len(tokens)-1), api.Node{Kind: want.Kind, At: want.At, S: want.S, Path: want.Path, HasPath: want.HasPath})...)
		}
	}
}
