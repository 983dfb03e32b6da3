package printer_test

import (
	"strings"
	"testing"

	"tmplpipe/api"
	"tmplpipe/parse"
	"tmplpipe/printer"
)

// returns checks what must hold for a source if it is a template, and reports whether it is.
func returns(t *testing.T, src string) bool {
	t.Helper()
	l, _, err := parse.Parse(src)
	if err != api.OK {
		return false
	}
	canonical := printer.Format(l)
	if canonical != described(l) || len(canonical) > len(src) {
		t.Fatalf("Format of %.300q = %.300q", src, canonical)
	}
	again, n, err := parse.Parse(canonical)
	if err != api.OK || n != len(canonical) || !printer.Equal(again, l) || !printer.Equal(l, again) {
		t.Fatalf("Parse(%.300q) = %s, %d, %v; the nodes of %.300q are %s", canonical, shown(again), n, err, src, shown(l))
	}
	if second := printer.Format(again); second != canonical {
		t.Fatalf("Format = %.300q for %.300q, the canonical source of %.300q", second, canonical, src)
	}
	stripped := printer.Strip(l)
	if !same(stripped, printer.Strip(again)) || printer.Format(stripped) != canonical {
		t.Fatalf("Strip(%s) = %s", shown(l), shown(stripped))
	}
	return true
}

// forEachSequence calls f for each sequence of n of the pieces.
func forEachSequence(n int, pieces []string, f func(string)) {
	if n == 0 {
		f("")
		return
	}
	forEachSequence(n-1, pieces, func(s string) {
		for _, piece := range pieces {
			f(s + piece)
		}
	})
}

// TestAllSequences has all templates of up to five directives and texts of all forms.
func TestAllSequences(t *testing.T) { // P13.1 to P13.3
	t.Parallel()
	pieces := []string{"a", "}", "{{ .}}", "{{if .a}}", "{{else }}", "{{range  .b.c}}", "{{ end }}", "{{define d}}", "{{call d}}", "{{call  d .e}}", "{{flush}}"}
	templates := 0
	for n := range 6 {
		forEachSequence(n, pieces, func(src string) {
			if returns(t, src) {
				templates++
			}
		})
	}
	if templates < 10000 {
		t.Fatal(templates)
	}
}

// TestAllBlocks has all templates of up to eight directives with which blocks begin and end.
func TestAllBlocks(t *testing.T) { // P13.1 to P13.3
	t.Parallel()
	templates := 0
	for n := range 9 {
		forEachSequence(n, []string{"{{if .}}", "{{else}}", "{{end}}", "{{range .}}", "{{define n}}"}, func(src string) {
			if returns(t, src) {
				templates++
			}
		})
	}
	if templates < 400 {
		t.Fatal(templates)
	}
}

// TestAllBraces has all templates of up to nine bytes that are braces and what makes them directives.
func TestAllBraces(t *testing.T) { // P13.3
	t.Parallel()
	templates := 0
	for n := range 10 {
		forEachSequence(n, []string{"{", "}", ".", " "}, func(src string) {
			if returns(t, src) && strings.Contains(src, "{{") {
				templates++
			}
		})
	}
	if templates < 400 {
		t.Fatal(templates)
	}
}

// TestAllPairs compares each of many templates with all of them: they are equal if their canonical sources are.
func TestAllPairs(t *testing.T) { // P13.2, P13.3
	t.Parallel()
	var templates [][]api.Node
	var sources []string
	add := func(src string) {
		if l, _, err := parse.Parse(src); err == api.OK {
			templates, sources = append(templates, l), append(sources, printer.Format(l))
		}
	}
	for n := range 5 {
		forEachSequence(n, []string{"a", "{{.}}", "{{ .}}", "{{if .}}", "{{else}}", "{{range .}}", "{{end}}"}, add)
	}
	for n := range 7 {
		forEachSequence(n, []string{"{{if .}}", "{{else}}", "{{end}}", "b"}, add)
	}
	for i, a := range templates {
		for j, b := range templates {
			if printer.Equal(a, b) != (sources[i] == sources[j]) {
				t.Fatal(sources[i], sources[j])
			}
			if same(printer.Strip(a), printer.Strip(b)) != (sources[i] == sources[j]) {
				t.Fatal(sources[i], sources[j])
			}
		}
	}
	if len(templates) < 300 {
		t.Fatal(len(templates))
	}
}

// TestDeepestTemplates has blocks nested up to MaxNest deep, of each kind, in Body and in Else.
func TestDeepestTemplates(t *testing.T) { // P13.3
	for n := 1; n <= api.MaxNest; n++ {
		for _, block := range [][2]string{
			{"{{if .a}}", "{{end}}"}, {"{{if .a}}", "{{ else}}{{end}}"}, {"{{if .a}}{{else }}", "{{end }}"}, {"{{if .a}}x{{else}}y", "z{{end}}"}, {"{{range .a}}", "{{end}}"}, {"x{{ range .a}}y", "z{{end}}w"},
		} {
			for _, inner := range []string{"", "x", "{{.}}{{flush}}"} {
				src := strings.Repeat(block[0], n) + inner + strings.Repeat(block[1], n)
				if !returns(t, src) {
					t.Fatal(src)
				}
				if l, _, _ := parse.Parse(printer.Format(parsed(t, src))); parse.Nest(l) != n {
					t.Fatal(src, parse.Nest(l))
				}
				if n == api.MaxNest {
					continue
				}
				if !returns(t, "{{define d}}"+src+"{{end}}"+src) || !returns(t, "{{if .}}"+src+"{{else}}"+src+"{{end}}") {
					t.Fatal(src)
				}
			}
		}
	}
}

// TestGreatestTemplates has MaxNodes nodes, of each kind and mixed, and sources of MaxTemplate bytes.
func TestGreatestTemplates(t *testing.T) { // P13.3
	const n = api.MaxNodes
	for _, src := range []string{
		strings.Repeat("a{{.}}", n/2), strings.Repeat("{{if .}}{{end}}", n), strings.Repeat("{{range .}}x{{end}}", n/2), strings.Repeat("{{define f}}{{.}}{{end}}", n/2), strings.Repeat("{{call f }}", n),
		strings.Repeat("{{ flush}}", n), strings.Repeat("{{if .}}x{{else}}{{.}}{{end}}", n/3) + "y", "{{if .}}{{else}}" + strings.Repeat("{{ .}}", n-1) + "{{end}}",
		"{{if .}}" + strings.Repeat("{{.}}", n/2) + "{{else}}" + strings.Repeat("{{.}}", n/2-1) + "{{end}}", "{{range .}}" + strings.Repeat("{{.}}", n-1) + "{{end}}",
		strings.Repeat("{{if .}}", api.MaxNest) + strings.Repeat("{{.}}", n-api.MaxNest) + strings.Repeat("{{else}}{{end}}", api.MaxNest),
	} {
		if l := parsed(t, src); parse.Count(l) != n || !returns(t, src) {
			t.Fatalf("%d nodes, %.100q", parse.Count(l), src)
		}
	}
	for _, src := range []string{
		strings.Repeat("x", api.MaxTemplate), strings.Repeat("}", api.MaxTemplate), "{{" + strings.Repeat(" ", api.MaxTemplate-5) + ".}}", "{{if .a}}" + strings.Repeat("x", api.MaxTemplate-16) + "{{end}}",
		strings.Repeat("{", 1) + strings.Repeat("x", api.MaxTemplate-7) + "{{.a}}",
	} {
		if len(src) != api.MaxTemplate || !returns(t, src) {
			t.Fatalf("%d bytes, %.100q", len(src), src)
		}
	}
	name, path := strings.Repeat("n", api.MaxName), strings.Repeat(".p", api.MaxPath)
	if !returns(t, "{{define "+name+"}}{{call "+name+"  "+path+"}}{{if "+path+"}}{{end}}{{end}}") {
		t.Fatal("the longest name and path")
	}
}

// TestIrregular has long templates of directives in an irregular order, with spaces at each place where they may be.
func TestIrregular(t *testing.T) { // P13.1 to P13.3
	t.Parallel()
	seed := uint32(1)
	next := func(n int) int {
		seed = seed*1664525 + 1013904223
		return int(seed>>16) % n
	}
	directive := func(words ...string) string {
		s := "{{" + strings.Repeat(" ", next(3))
		for i, word := range words {
			if i > 0 {
				s += strings.Repeat(" ", 1+next(3))
			}
			s += word
		}
		return s + strings.Repeat(" ", next(3)) + "}}"
	}
	paths := []string{".", ".a", ".b.c", ".if.else.end"}
	var template func(depth int) string
	template = func(depth int) string {
		s := ""
		for range next(6) {
			path := paths[next(len(paths))]
			switch choice := next(12); {
			case choice == 0 && depth < api.MaxNest:
				s += directive("if", path) + template(depth+1) + directive("end")
			case choice == 1 && depth < api.MaxNest:
				s += directive("if", path) + template(depth+1) + directive("else") + template(depth+1) + directive("end")
			case choice == 2 && depth < api.MaxNest:
				s += directive("range", path) + template(depth+1) + directive("end")
			case choice == 3 && depth == 0:
				s += directive("define", "f") + template(1) + directive("end")
			case choice < 5:
				s += directive("call", "g", path)
			case choice < 6:
				s += directive("call", "g")
			case choice < 7:
				s += directive("flush")
			case choice < 9:
				s += directive(path)
			default:
				s += []string{"x", "}} {.a}", "\n<p>", " "}[next(4)]
			}
		}
		return s
	}
	for range 5000 {
		src := template(0) + template(0)
		if !returns(t, src) {
			_, at, err := parse.Parse(src)
			t.Fatalf("Parse(%q) = %d, %v", src, at, err)
		}
	}
}
