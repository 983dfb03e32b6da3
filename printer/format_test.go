package printer_test

import (
	"fmt"
	"math"
	"slices"
	"strings"
	"testing"

	"tmplpipe/api"
	"tmplpipe/parse"
	"tmplpipe/printer"
)

// parsed returns the nodes of templates, in sequence, each with its offset in its own source.
func parsed(t *testing.T, sources ...string) []api.Node {
	t.Helper()
	var l []api.Node
	for _, src := range sources {
		nodes, at, err := parse.Parse(src)
		if err != api.OK {
			t.Fatalf("Parse(%.300q) = %d, %v", src, at, err)
		}
		l = append(l, nodes...)
	}
	return l
}

// shown returns the beginning of the text of nodes.
func shown(l []api.Node) string { return fmt.Sprintf("%.900s", fmt.Sprintf("%+v", l)) }

// described returns what the chapters say of the canonical source of a template.
func described(l []api.Node) string {
	s := ""
	for _, n := range l {
		body := described(n.Body)
		switch n.Kind {
		case api.Text:
			s += n.S
		case api.Print:
			s += "{{." + n.Path + "}}"
		case api.If:
			s += "{{if ." + n.Path + "}}" + body
			if n.HasElse {
				s += "{{else}}" + described(n.Else)
			}
			s += "{{end}}"
		case api.Range:
			s += "{{range ." + n.Path + "}}" + body + "{{end}}"
		case api.Call:
			s += "{{call " + n.S
			if n.HasPath {
				s += " ." + n.Path
			}
			s += "}}"
		case api.Flush:
			s += "{{flush}}"
		case api.Define:
			s += "{{define " + n.S + "}}" + body + "{{end}}"
		}
	}
	return s
}

// formats checks the canonical source of the nodes of templates.
func formats(t *testing.T, want string, sources ...string) {
	t.Helper()
	if got := printer.Format(parsed(t, sources...)); got != want {
		t.Fatalf("Format of %.300q = %.300q; want %.300q", sources, got, want)
	}
}

func TestExample(t *testing.T) { // P13.1
	formats(t, "{{if .a}}x{{end}}", "{{ if .a }}x{{ end }}")
}

func TestFormatOfEmptyLists(t *testing.T) { // P13.1
	if printer.Format(nil) != "" || printer.Format([]api.Node{}) != "" {
		t.Fatal("a list without nodes has a source")
	}
	formats(t, "")
	formats(t, "", "", "")
}

// TestFormatOfTexts has texts of each byte, and texts with braces that are no directives.
func TestFormatOfTexts(t *testing.T) { // P13.1
	for c := range 256 {
		b := string([]byte{byte(c)})
		formats(t, b, b)
		formats(t, b+"x"+b, b+"x"+b)
		if b != "{" { // which would be one of the braces of the directive behind it
			formats(t, "{{if .}}"+b+"{{else}}"+b+"{{end}}"+b, "{{if .}}"+b+"{{else}}"+b+"{{end}}"+b)
		}
	}
	for _, text := range []string{
		"{", "}", "}}", "}}}}", "{}", "}{", "{}}", "}}{", "{ {.a} }", "{a{.b}}", "{.a}}", " ", "  ", "\n", "\r\n", "\x00\x00", "if", "else", "end", ".a", "{else}", "<b>&amp;\"'</b>",
		"\xff\xfe", "\u20ac", "{\xff{",
	} {
		formats(t, text, text)
		formats(t, "{{.}}"+text, "{{ . }}"+text)
		if !strings.HasSuffix(text, "{") {
			formats(t, "{{define f}}"+text+"{{.a}}"+text+"{{end}}"+text, "{{define f}}"+text+"{{.a }}"+text+"{{end}}"+text)
		}
	}
	formats(t, "{{.a}}}}}{", "{{.a}}}}}{")
	formats(t, "}}{ {{.a}}{", "}}{ {{ .a}}{")
	formats(t, "{{.a}}{{{.b}}{", "{{.a}}{", "{{.b}}{")
}

// TestFormatOfEachKind has directives of each form, with and without a path, and with more spaces than needed.
func TestFormatOfEachKind(t *testing.T) { // P13.1
	for src, want := range map[string]string{
		"{{.}}": "{{.}}", "{{ . }}": "{{.}}", "{{.a}}": "{{.a}}", "{{  .a.b_2.C }}": "{{.a.b_2.C}}", "{{.a.b.c.d.e.f.g.h}}": "{{.a.b.c.d.e.f.g.h}}",
		"{{if .}}{{end}}": "{{if .}}{{end}}", "{{  if   .a.b }}{{ end  }}": "{{if .a.b}}{{end}}", "{{if .}}{{ else }}{{end}}": "{{if .}}{{else}}{{end}}",
		"{{range .}}{{end}}": "{{range .}}{{end}}", "{{ range  .a }}{{end }}": "{{range .a}}{{end}}",
		"{{call f}}": "{{call f}}", "{{ call  f }}": "{{call f}}", "{{call f .}}": "{{call f .}}", "{{ call   f   .a.b  }}": "{{call f .a.b}}",
		"{{flush}}": "{{flush}}", "{{   flush }}": "{{flush}}", "{{define f}}{{end}}": "{{define f}}{{end}}", "{{ define  f }}{{  end}}": "{{define f}}{{end}}",
		// names that are also words of directives
		"{{.if}}": "{{.if}}", "{{if .else}}{{end}}": "{{if .else}}{{end}}", "{{range .end.range}}{{end}}": "{{range .end.range}}{{end}}", "{{call call .define}}": "{{call call .define}}",
		"{{call end}}": "{{call end}}", "{{define else}}{{end}}": "{{define else}}{{end}}", "{{define flush}}{{end}}": "{{define flush}}{{end}}",
	} {
		formats(t, want, src)
		formats(t, want+"x"+want, src+"x"+src)
	}
}

// TestFormatOfBlocks has blocks that are empty and full, in one another and next to one another, and blocks in an Else.
func TestFormatOfBlocks(t *testing.T) { // P13.1
	for _, src := range []string{
		// an If with no, an empty and a full Else
		"{{if .a}}{{end}}", "{{if .a}}{{else}}{{end}}", "{{if .a}}{{else}}y{{end}}", "{{if .a}}x{{end}}", "{{if .a}}x{{else}}{{end}}", "{{if .a}}x{{else}}y{{end}}",
		"{{if .a}}x{{.b}}y{{flush}}{{else}}{{call f}}z{{call g .c}}w{{end}}",
		"{{range .a}}{{end}}", "{{range .a}}x{{end}}", "{{range .a}}x{{.b}}{{call f}}y{{flush}}{{end}}", "{{define f}}{{end}}", "{{define f}}x{{end}}", "{{define f}}x{{.b}}{{call f .}}y{{flush}}{{end}}",
		// next to one another
		"{{if .a}}x{{end}}{{if .b}}{{else}}y{{end}}{{range .c}}z{{end}}{{define f}}w{{end}}", "{{if .a}}{{end}}{{if .a}}{{end}}", "{{range .a}}{{end}}-{{range .a}}{{end}}", "{{define f}}{{end}}{{define f}}{{end}}",
		// in one another
		"{{if .a}}{{if .b}}{{if .c}}x{{end}}{{end}}{{end}}", "{{range .a}}1{{range .b}}2{{range .c}}3{{end}}4{{end}}5{{end}}6", "{{define f}}1{{range .a}}2{{if .b}}3{{else}}4{{end}}5{{end}}6{{end}}7",
		// in an Else
		"{{if .a}}{{else}}{{if .b}}{{end}}{{end}}", "{{if .a}}{{else}}{{range .b}}{{end}}{{end}}", "{{if .a}}1{{else}}2{{if .b}}3{{else}}4{{end}}5{{range .c}}6{{end}}7{{end}}8",
		"{{if .a}}{{if .b}}{{else}}x{{end}}{{end}}", "{{if .a}}{{if .b}}{{end}}{{else}}x{{end}}", "{{if .a}}{{else}}{{if .b}}{{else}}{{if .c}}{{else}}x{{end}}{{end}}{{end}}",
		"{{define f}}{{if .a}}{{else}}{{range .b}}{{if .c}}{{else}}x{{end}}{{end}}{{end}}{{end}}",
	} {
		formats(t, src, src)
		formats(t, src+src, src, src)
		formats(t, "a"+src+"b", "a"+src+"b")
		formats(t, src, strings.NewReplacer("{{", "{{  ", "}}", " }}").Replace(src))
	}
}

// TestFormatOfSequences has lists of nodes of several sources, in all orders.
func TestFormatOfSequences(t *testing.T) { // P13.1
	sources := []string{"a", "b{{ .c }}", "{{if .d}}e{{else}}f{{end}}g", "{{define h}}{{flush}}{{end}}{{call h .i}}", "{{range .j}}{{end}}{{ flush }}"}
	forEachOrder(sources, func(ordered []string) {
		want := strings.NewReplacer("{{ ", "{{", " }}", "}}").Replace(strings.Join(ordered, ""))
		formats(t, want, ordered...)
		formats(t, want+want, slices.Concat(ordered, ordered)...)
		l := parsed(t, ordered...)
		slices.Reverse(l)
		if got := printer.Format(l); got != described(l) {
			t.Fatalf("Format(%s) = %.300q", shown(l), got)
		}
	})
	// Sources that are templates only on their own, or are others next to one another.
	formats(t, "{{.a}}", "{", "{.a}}")
	formats(t, "ab", "a", "b")
	formats(t, "{{{.a}}", "{", "{{.a}}")
	formats(t, "{{{{}}}}", "{", "{", "{", "{", "}}", "}}")
}

// forEachOrder calls f with all orders of l.
func forEachOrder(l []string, f func([]string)) {
	if len(l) == 0 {
		f(nil)
		return
	}
	for i, first := range l {
		forEachOrder(slices.Delete(slices.Clone(l), i, i+1), func(others []string) { f(append([]string{first}, others...)) })
	}
}

// TestFormatOfLongLists has more nodes than a template can have, and a longer source.
func TestFormatOfLongLists(t *testing.T) { // P13.1
	src := strings.Repeat("x{{.a}}{{if .b}}{{else}}y{{end}}", api.MaxNodes/4)
	formats(t, strings.Repeat(src, 5), src, src, src, src, src)
	long := strings.Repeat("z", api.MaxTemplate)
	formats(t, long+src+long, long, src, long)
}

// setOffsets sets each offset of a template to what next returns.
func setOffsets(l []api.Node, next func() int) {
	for i := range l {
		l[i].At = next()
		setOffsets(l[i].Body, next)
		setOffsets(l[i].Else, next)
	}
}

// TestFormatIgnoresOffsets has offsets of any size and order.
func TestFormatIgnoresOffsets(t *testing.T) { // P13.1
	const src = "a{{.b}}{{if .c}}d{{call e}}{{else}}{{range .f}}g{{end}}{{end}}{{flush}}{{define h}}{{call i .}}{{end}}"
	l := parsed(t, src)
	for _, at := range []int{0, 1, -1, math.MaxInt, math.MinInt} {
		for _, step := range []int{0, 1, -1, math.MaxInt} {
			setOffsets(l, func() int { at += step; return at })
			if got := printer.Format(l); got != src {
				t.Fatalf("Format(%s) = %q", shown(l), got)
			}
		}
	}
}
