package parse_test

import (
	"strings"
	"testing"

	"tmplpipe/api"
	"tmplpipe/lex"
	"tmplpipe/parse"
)

// rejected checks that Parse returns an offset and an error for a source, and no nodes.
func rejected(t *testing.T, src string, at int, want api.Errno) {
	t.Helper()
	if got, n, err := parse.Parse(src); len(got) > 0 || n != at || err != want {
		t.Fatalf("Parse(%.300q) = %s, %d, %v; want no nodes, %d, %v", src, shown(got), n, err, at, want)
	}
}

func TestElseWhereNoneIsAllowed(t *testing.T) { // P12.1
	for src, at := range map[string]int{
		// outside of all blocks
		"{{else}}": 0, "x{{else}}": 1, "{{else}}{{end}}": 0, "{{if .a}}{{end}}{{else}}": 16, "{{if .a}}{{else}}{{end}}{{else}}": 24, "{{range .a}}{{end}}{{else}}{{end}}": 19,
		// in a Range, also one in an If
		"{{range .a}}{{else}}": 12, "{{range .a}}{{else}}{{end}}": 12, "{{range .a}}x{{else}}y{{end}}": 13, "{{if .a}}{{range .b}}{{else}}{{end}}{{end}}": 21,
		"{{if .a}}{{else}}{{range .b}}{{else}}{{end}}{{end}}": 29, "{{range .a}}{{if .b}}{{else}}{{end}}{{else}}{{end}}": 36,
		// in a Define
		"{{define f}}{{else}}": 12, "{{define f}}{{else}}{{end}}": 12, "{{define f}}x{{else}}{{end}}": 13, "{{define f}}{{if .b}}{{else}}{{end}}{{else}}{{end}}": 36,
		// a second one
		"{{if .a}}{{else}}{{else}}": 17, "{{if .a}}{{else}}{{else}}{{end}}": 17, "{{if .a}}x{{else}}y{{else}}z{{end}}": 19, "{{if .a}}{{else}}{{if .b}}{{end}}{{else}}{{end}}": 33,
		"{{if .a}}{{else}}{{if .b}}{{else}}{{end}}{{else}}{{end}}": 41, "{{if .a}}{{if .b}}{{else}}{{else}}{{end}}{{end}}": 26,
	} {
		rejected(t, src, at, api.ErrNesting)
		rejected(t, "ab{{.}}"+src, 7+at, api.ErrNesting)
		rejected(t, src+"{{if .a}}", at, api.ErrNesting)
	}
}

func TestEndWhereNoBlockIsOpen(t *testing.T) { // P12.1
	for src, at := range map[string]int{
		"{{end}}": 0, "x{{end}}": 1, "{{.}}{{ end }}y": 5, "{{end}}{{end}}": 0, "{{if .a}}{{end}}{{end}}": 16, "{{if .a}}{{else}}{{end}}{{end}}": 24,
		"{{range .a}}{{end}}x{{end}}": 20, "{{define f}}{{end}}{{end}}": 19, "{{if .a}}{{range .b}}{{end}}{{end}}{{end}}{{end}}": 35, "{{call f}}{{end}}": 10, "{{flush}}{{end}}": 9,
		"{{end}}{{if .a}}": 0,
	} {
		rejected(t, src, at, api.ErrNesting)
		rejected(t, "ab{{.}}"+src, 7+at, api.ErrNesting)
		rejected(t, src+"{{else}}", at, api.ErrNesting)
	}
}

func TestDefineInsideABlock(t *testing.T) { // P12.1
	for src, at := range map[string]int{
		"{{if .a}}{{define f}}{{end}}{{end}}": 9, "{{if .a}}{{else}}{{define f}}{{end}}{{end}}": 17, "{{range .a}}{{define f}}{{end}}{{end}}": 12,
		"{{define f}}{{define g}}{{end}}{{end}}": 12, "{{define f}}{{define f}}{{end}}{{end}}": 12, "{{define f}}x{{define g}}": 13, "{{if .a}}{{define f}}": 9,
		"{{if .a}}{{range .b}}{{define f}}{{end}}{{end}}{{end}}": 21, "{{if .a}}{{range .b}}{{end}}{{define f}}{{end}}{{end}}": 28,
		"{{define f}}{{if .a}}{{else}}x{{define g}}{{end}}{{end}}{{end}}": 30, "{{define f}}{{end}}{{if .a}}x{{end}}{{range .b}}{{define g}}{{end}}{{end}}": 48,
	} {
		rejected(t, src, at, api.ErrNesting)
		rejected(t, "ab{{.}}"+src, 7+at, api.ErrNesting)
	}
}

// TestTooDeepNesting has one block more than MaxNest, of each kind.
func TestTooDeepNesting(t *testing.T) { // P12.1
	for _, around := range nestings(api.MaxNest) {
		for _, block := range []string{"{{if .}}", "{{if .}}{{else}}", "{{range .}}", "{{define n}}"} {
			at := len(around[0])
			rejected(t, around[0]+block, at, api.ErrNesting)
			rejected(t, around[0]+block+"{{end}}"+around[1], at, api.ErrNesting)
			rejected(t, around[0]+"x{{.}}"+block+"y{{end}}"+around[1], at+6, api.ErrNesting)
			rejected(t, around[0]+"x"+block+block+block, at+1, api.ErrNesting)
		}
	}
	// Deeper in the Else of the innermost block, and of the one around it.
	deep := strings.Repeat("{{if .}}", api.MaxNest)
	rejected(t, deep+"{{else}}{{if .}}", 8*api.MaxNest+8, api.ErrNesting)
	rejected(t, deep+"{{end}}{{else}}{{if .}}{{range .}}", 8*api.MaxNest+7+8+8, api.ErrNesting)
}

// TestTooManyNodes has one node more than MaxNodes, of each kind.
func TestTooManyNodes(t *testing.T) { // P12.1
	for _, node := range []string{"x", "{{.}}", "{{if .}}", "{{if .}}{{end}}", "{{range .}}", "{{range .}}{{end}}", "{{define n}}", "{{define n}}{{end}}", "{{call n}}", "{{call n .}}", "{{flush}}"} {
		before := many(api.MaxNodes)
		rejected(t, before+node, len(before), api.ErrLimit)
		rejected(t, before+node+"{{end}}{{else}}{{.}}", len(before), api.ErrLimit)
		if strings.Contains(node, "define") {
			continue
		}
		for _, open := range []string{"{{if .}}", "{{if .}}{{else}}", "{{range .}}", "{{define n}}", "{{define n}}{{end}}{{range .}}{{if .}}{{flush}}{{else}}"} {
			nodes := strings.Count(open, "{{") - strings.Count(open, "{{else}}") - strings.Count(open, "{{end}}")
			before := many(api.MaxNodes-nodes) + open
			rejected(t, before+node, len(before), api.ErrLimit)
			rejected(t, before+node+"{{end}}{{end}}", len(before), api.ErrLimit)
			// One node less leaves room for this one.
			before = many(api.MaxNodes-nodes-1) + open
			if _, n, err := parse.Parse(before + node); err != api.ErrTruncated {
				t.Fatal(open, node, n, err)
			}
		}
	}
}

// TestNodesOfClosedBlocksCount has the nodes in several blocks, each of which has fewer than MaxNodes nodes.
func TestNodesOfClosedBlocksCount(t *testing.T) { // P12.1
	third := strings.Repeat("{{.}}", api.MaxNodes/4)
	for _, block := range []string{"{{if .}}_{{end}}", "{{if .}}{{else}}_{{end}}", "{{range .}}_{{end}}", "{{define n}}_{{end}}"} {
		four := strings.Repeat(strings.ReplaceAll(block, "_", third), 4)
		rejected(t, four, len(four)-len("{{end}}")-4*5, api.ErrLimit)
	}
	half := strings.Repeat("{{.}}", api.MaxNodes/2)
	rejected(t, "{{if .}}"+half+"{{else}}"+half+"{{end}}", 8+5*api.MaxNodes+8-5, api.ErrLimit)
}

// TestOpenBlocks has blocks that are open at the end of the source.
func TestOpenBlocks(t *testing.T) { // P12.1
	for src, at := range map[string]int{
		"{{if .a}}": 0, "{{range .a}}": 0, "{{define f}}": 0, "x{{if .a}}": 1, "x{{range .a}}y": 1, "xy{{define f}}{{.}}": 2,
		"{{if .a}}{{else}}": 0, "{{if .a}}x{{else}}y": 0, "{{if .a}}{{if .b}}": 9, "{{if .a}}{{else}}{{if .b}}": 17, "{{if .a}}{{else}}{{if .b}}{{else}}": 17,
		"{{if .a}}{{if .b}}{{else}}x": 9, "{{if .a}}{{if .b}}{{end}}": 0, "{{if .a}}{{else}}{{if .b}}{{end}}": 0, "{{if .a}}{{if .b}}{{end}}{{else}}": 0,
		"{{if .a}}{{if .b}}{{end}}{{else}}{{range .c}}": 33, "{{range .a}}{{range .b}}{{range .c}}x": 24, "{{range .a}}{{range .b}}{{range .c}}{{end}}x": 12,
		"{{range .a}}{{range .b}}{{range .c}}{{end}}{{end}}x": 0, "{{define f}}{{range .a}}{{if .b}}{{end}}": 12, "{{define f}}{{end}}{{define f}}": 19,
		"{{if .a}}{{end}}{{range .b}}{{end}}{{if .c}}": 35, "{{define f}}{{if .a}}{{else}}": 12, "{{define f}}{{if .a}}{{else}}{{end}}": 0,
	} {
		rejected(t, src, at, api.ErrTruncated)
		rejected(t, "ab{{.}}"+src, 7+at, api.ErrTruncated)
		rejected(t, src+"{{flush}}ab", at, api.ErrTruncated)
	}
	for n := 1; n <= api.MaxNest; n++ {
		rejected(t, strings.Repeat("{{if .}}", n), 8*(n-1), api.ErrTruncated)
		for closed := range n {
			rejected(t, strings.Repeat("{{range .}}", n)+strings.Repeat("x{{end}}", closed), 11*(n-1-closed), api.ErrTruncated)
			rejected(t, strings.Repeat("{{if .}}{{else}}", n)+strings.Repeat("{{end}}x", closed), 16*(n-1-closed), api.ErrTruncated)
		}
	}
}

// TestSeveralRules has tokens that break several rules.
func TestSeveralRules(t *testing.T) { // P12.1
	full, open := many(api.MaxNodes), many(api.MaxNodes-1)
	deep := many(api.MaxNodes-api.MaxNest) + strings.Repeat("{{if .}}", api.MaxNest)
	for _, c := range []struct {
		before, token string
		want          api.Errno
	}{
		{open + "{{if .}}", "{{define n}}", api.ErrNesting}, {open + "{{range .}}", "{{define n}}", api.ErrNesting}, {open + "{{define n}}", "{{define n}}", api.ErrNesting},
		{open + "{{if .}}{{else}}", "{{define n}}", api.ErrNesting}, {deep, "{{define n}}", api.ErrNesting}, {deep, "{{if .}}", api.ErrNesting}, {deep, "{{range .}}", api.ErrNesting},
		{deep + "{{else}}", "{{if .}}", api.ErrNesting}, {deep + "{{else}}", "{{define n}}", api.ErrNesting}, {deep + "{{end}}", "{{define n}}", api.ErrNesting},
		{deep + "{{end}}", "{{if .}}", api.ErrLimit}, {deep + "{{end}}", "{{range .}}", api.ErrLimit}, {deep, "x", api.ErrLimit}, {deep, "{{.}}", api.ErrLimit}, {deep + "{{else}}", "{{call n}}", api.ErrLimit},
		{full, "{{define n}}", api.ErrLimit}, {full, "{{else}}", api.ErrNesting}, {full, "{{end}}", api.ErrNesting}, {open + "{{range .}}", "{{else}}", api.ErrNesting},
		{open + "{{if .}}{{end}}", "{{end}}", api.ErrNesting}, {strings.Repeat("{{range .}}", api.MaxNest), "{{define n}}", api.ErrNesting},
	} {
		rejected(t, c.before+c.token, len(c.before), c.want)
	}
}

// TestFirstFaultCounts has several tokens that are not valid, and blocks that are open at the end.
func TestFirstFaultCounts(t *testing.T) { // P12.1
	faults := []string{"{{end}}", "{{else}}", "{{if .}}{{else}}{{else}}", "{{range .}}{{else}}", "{{define f}}{{define f}}", strings.Repeat("{{if .}}", api.MaxNest+1), strings.Repeat("{{.}}", api.MaxNodes+1)}
	for _, first := range faults {
		at, err := describedFault(first)
		for _, second := range faults {
			rejected(t, first+second, at, err)
		}
		rejected(t, first+"{{range .}}", at, err)
		rejected(t, first+"x{{if .}}y{{else}}", at, err)
	}
}

// TestErrorsOfLex has directives that are not valid before and behind other faults, and a source that is too long.
func TestErrorsOfLex(t *testing.T) { // P12.1
	for _, directive := range []string{"{{", "{{if", "{{if}}", "{{}}", "{{if a}}", "{{else .a}}", "{{end if}}", "{{define .a}}", "{{.a.}}", "{{.1}}", "{{if .a.}}", "{{range ..}}", "{{define 1}}", "{{call f .1}}"} {
		for _, before := range []string{"", "x", "{{end}}", "{{else}}", "{{if .a}}", "{{if .a}}{{else}}{{else}}", "{{range .a}}{{else}}", "{{define f}}{{define f}}",
			strings.Repeat("{{if .}}", api.MaxNest+1), strings.Repeat("{{.}}", api.MaxNodes+1)} {
			src := before + directive
			_, at, want := lex.Lex(src)
			if at != len(before) || want == api.OK {
				t.Fatal(src, at, want)
			}
			rejected(t, src, at, want)
			if directive != "{{" && directive != "{{if" {
				rejected(t, src+"{{end}}{{if}}", at, want)
			}
		}
	}
	for _, piece := range []string{"x", "{{end}}", "{{if .}}", "{{if}}", "{{"} {
		rejected(t, strings.Repeat(piece, api.MaxTemplate+1), 0, api.ErrTooLong)
	}
	rejected(t, "{{"+strings.Repeat("x", api.MaxTemplate-1), 0, api.ErrTooLong)
}
