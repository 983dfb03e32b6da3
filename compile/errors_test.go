package compile_test

import (
	"fmt"
	"strings"
	"testing"

	"tmplpipe/api"
	"tmplpipe/compile"
)

// fault is a source and what is wrong with it.
type fault struct {
	src string
	at  int
	err api.Errno
}

// definitions returns the source of a number of definitions, which have different names.
func definitions(n int) string {
	var b strings.Builder
	for i := range n {
		fmt.Fprintf(&b, "{{define d%d}}{{end}}", i)
	}
	return b.String()
}

// badDefinitions are sources that defines refuses and infer does not.
func badDefinitions() []fault {
	most := definitions(api.MaxDefines)
	return []fault{
		{"{{call f}}", 0, api.ErrName},
		{"a{{call f}}", 1, api.ErrName},
		{"{{define f}}{{end}}{{call F}}", 19, api.ErrName},
		{"{{if .a}}b{{else}}{{call f}}{{end}}{{call g}}", 18, api.ErrName},
		{"{{range .a}}{{call f .}}{{end}}", 12, api.ErrName},
		{"{{define f}}{{call g}}{{end}}", 12, api.ErrName},
		{"x{{define f}}{{end}}{{define f}}{{end}}", 20, api.ErrDuplicate},
		{"{{call g}}{{define f}}{{end}}{{define f}}{{end}}", 29, api.ErrDuplicate},
		{most + "{{define x}}{{end}}", len(most), api.ErrLimit},
		{most + "{{define d5}}{{end}}", len(most), api.ErrDuplicate},
	}
}

// badContexts are sources that infer refuses and defines does not.
func badContexts() []fault {
	return []fault{
		{"<a {{.x}}>", 3, api.ErrContext},
		{"{{if .a}}<a {{.x}}>{{end}}", 12, api.ErrContext},
		{"{{define f}}<script>{{.x}}</script>{{end}}", 20, api.ErrContext},
		{"{{define f}}{{end}}<a {{call f}}>", 22, api.ErrContext},
		{"{{if .a}}<b {{end}}x", 0, api.ErrJoin},
		{"x{{if .a}}>{{else}}<b {{end}}", 1, api.ErrJoin},
		{"xy{{range .a}}<b {{end}}", 2, api.ErrJoin},
		{"{{define f}}<b {{end}}", 0, api.ErrJoin},
		{"<b", 0, api.ErrJoin},
		{"a{{flush}}<b {{define f}}{{end}}", 13, api.ErrJoin},
		{"<b {{range .a}}{{end}}", 3, api.ErrJoin},
	}
}

// notParsed are sources that parse refuses.
func notParsed() []fault {
	deep := strings.Repeat("{{if .a}}", api.MaxNest)
	most := strings.Repeat("{{.}}", api.MaxNodes)
	return []fault{
		{strings.Repeat("x", api.MaxTemplate+1), 0, api.ErrTooLong},
		{"a{{", 1, api.ErrTruncated},
		{"a{{if}}", 1, api.ErrSyntax},
		{"ab{{.a.}}", 2, api.ErrName},
		{"{{define .f}}{{end}}", 0, api.ErrSyntax},
		{"x{{end}}", 1, api.ErrNesting},
		{"x{{else}}", 1, api.ErrNesting},
		{"{{if .a}}{{else}}{{else}}{{end}}", 17, api.ErrNesting},
		{"{{if .a}}{{define f}}{{end}}{{end}}", 9, api.ErrNesting},
		{"x{{if .a}}y", 1, api.ErrTruncated},
		{"{{if .a}}x{{range .b}}", 10, api.ErrTruncated},
		{deep + "{{range .b}}{{end}}" + strings.Repeat("{{end}}", api.MaxNest), len(deep), api.ErrNesting},
		{most + "x", len(most), api.ErrLimit},
	}
}

func TestBadDefinitions(t *testing.T) { // P17.1, P17.2
	for _, f := range badDefinitions() {
		refused(t, f.src, f.at, f.err)
		refused(t, f.src+"<b>{{.x}}</b>", f.at, f.err)
	}
}

func TestBadContexts(t *testing.T) { // P17.1, P17.2
	for _, f := range badContexts() {
		refused(t, f.src, f.at, f.err)
	}
}

// TestBadDefinitionsAndContexts has lists that both refuse: the definitions come first, wherever they are.
func TestBadDefinitionsAndContexts(t *testing.T) { // P17.1, P17.2
	for _, d := range badDefinitions() {
		for _, c := range badContexts() {
			if strings.Contains(c.src, "define f") { // would define the name that is missing, or once more
				continue
			}
			refused(t, d.src+"{{flush}}"+c.src, d.at, d.err)
			refused(t, c.src+"{{flush}}"+d.src, len(c.src)+9+d.at, d.err)
		}
	}
	refused(t, "<a {{call f}}>", 3, api.ErrName)
	refused(t, "<a {{.x}}{{call f}}>", 9, api.ErrName)
	refused(t, "{{define f}}<b {{end}}{{define f}}{{end}}", 22, api.ErrDuplicate)
	refused(t, "{{define f}}<b {{.x}}{{end}}{{call g}}", 28, api.ErrName)
	refused(t, "{{if .a}}<b {{call g}}{{end}}", 12, api.ErrName)
}

func TestNotParsed(t *testing.T) { // P17.2
	for _, f := range notParsed() {
		if code, at, err := compile.Compile(f.src); len(code) != 0 || at != f.at || err != f.err {
			t.Errorf("%.100q: %s, %d, %v, want %d, %v", f.src, shown(code), at, err, f.at, f.err)
		}
	}
}

// TestNotParsedBeforeOthers has sources that don't parse and that Code would refuse: the fault of parse comes first.
func TestNotParsedBeforeOthers(t *testing.T) { // P17.2
	for _, f := range notParsed() {
		if f.err == api.ErrTooLong || f.err == api.ErrLimit {
			continue
		}
		for _, other := range append(badDefinitions(), badContexts()...) {
			src := other.src + "{{flush}}" + f.src
			if code, at, err := compile.Compile(src); len(code) != 0 || at != len(src)-len(f.src)+f.at || err != f.err {
				t.Errorf("%.100q: %s, %d, %v, want %d, %v", src, shown(code), at, err, len(src)-len(f.src)+f.at, f.err)
			}
		}
	}
}

// TestMostDefinitions has as many definitions as there can be, and calls of each of them.
func TestMostDefinitions(t *testing.T) { // P17.1
	var src strings.Builder
	var want []api.Ins
	src.WriteString(definitions(api.MaxDefines))
	for i := range api.MaxDefines {
		name := (i*37 + 5) % api.MaxDefines
		fmt.Fprintf(&src, "{{call d%d .x}}", name)
		want = append(want, api.Ins{Op: api.OpCall, Path: "x", HasPath: true, To: api.MaxDefines + 1 + name})
	}
	want = append(want, api.Ins{Op: api.OpHalt})
	for range api.MaxDefines {
		want = append(want, api.Ins{Op: api.OpRet})
	}
	codeIs(t, src.String(), want)
}
