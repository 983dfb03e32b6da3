package infer_test

import (
	"slices"
	"strings"
	"testing"

	"tmplpipe/api"
	"tmplpipe/htmlctx"
	"tmplpipe/infer"
)

// The escapers, by short names.
const (
	text = api.EscText
	attr = api.EscAttr
	url  = api.EscURL
	js   = api.EscJS
	css  = api.EscCSS
)

// TestEscapers has templates with Print nodes in different contexts, in blocks within blocks and in definitions.
func TestEscapers(t *testing.T) { // P16.2
	for _, c := range []struct {
		src  string
		want []int
	}{
		{"", nil}, {"x", nil}, {"{{flush}}", nil}, {"{{call f}}x<b>", nil}, {"{{if .a}}{{end}}{{range .b}}{{end}}{{define f}}{{end}}", nil},
		{"{{.}}", []int{text}}, {"{{.a}}{{.b}}", []int{text, text}}, {"<b>{{.a}}</b>{{.b}}", []int{text, text}}, {"a < b {{.a}} < c", []int{text}}, {"<script></script>{{.a}}<!-- x -->{{.b}}<!x>{{.c}}", []int{text, text, text}},
		{`<a title="{{.a}}">`, []int{attr}}, {`<a title='{{.a}}'>`, []int{attr}}, {`<a href="{{.a}}">`, []int{url}}, {`<a href='{{.a}}'>`, []int{url}}, {`<script>"{{.a}}"</script>`, []int{js}}, {`<script>'{{.a}}'</script>`, []int{js}}, {`<style>"{{.a}}"</style>`, []int{css}}, {`<style>'{{.a}}'</style>`, []int{css}},
		{`{{.a}}<a title="{{.b}}" href="{{.c}}">{{.d}}</a><script>"{{.e}}"</script><style>'{{.f}}'</style>{{.g}}`, []int{text, attr, url, text, js, css, text}},
		{`<style>'{{.a}}'</style><script>'{{.b}}'</script><a src='{{.c}}' alt='{{.d}}'>{{.e}}`, []int{css, js, url, attr, text}},
		{`<a href="{{.a}}{{.b}}?{{.c}}=x" title='{{.d}}{{flush}}{{.e}}'>`, []int{url, url, url, attr, attr}},
		{`{{if .x}}{{.a}}{{else}}<a title="{{.b}}">{{end}}`, []int{text, attr}}, {`{{if .x}}<a title="{{.b}}">{{else}}{{.a}}{{end}}`, []int{attr, text}}, {`{{if .x}}{{else}}<a title="{{.b}}">{{end}}`, []int{attr}},
		{`{{.a}}{{if .x}}<a href="{{.b}}">{{else}}<a title="{{.c}}">{{end}}<style>"{{.d}}"</style>`, []int{text, url, attr, css}},
		{`<a {{if .x}}href="{{.a}}{{else}}src="{{.b}}{{end}}{{.c}}" title="{{.d}}">`, []int{url, url, url, attr}},
		{`{{if .x}}{{if .y}}<a title="{{.a}}">{{else}}<a href="{{.b}}">{{end}}<script>"{{.c}}"</script>{{else}}{{.d}}{{if .z}}<style>"{{.e}}"</style>{{else}}{{.f}}{{end}}{{end}}<b id='{{.g}}'>`, []int{attr, url, js, text, css, text, attr}},
		{`{{range .x}}{{.}}{{end}}`, []int{text}}, {`{{range .x}}<a href="{{.a}}">{{.b}}</a>{{end}}{{.c}}`, []int{url, text, text}}, {`<a href="{{range .x}}{{.a}}&{{end}}" alt="{{range .y}}{{.}}{{end}}">`, []int{url, attr}},
		{`{{range .x}}{{range .y}}<a href="{{.a}}">{{end}}{{if .b}}<a title="{{.b}}">{{end}}{{.c}}{{end}}`, []int{url, attr, text}},
		{`<script>x = ["{{range .x}}{{.a}}", "{{end}}"]</script>{{.b}}`, []int{js, text}},
		{`{{define f}}{{.a}}{{end}}`, []int{text}}, {`{{define f}}<a href="{{.a}}">{{end}}<a title="{{.b}}">`, []int{url, attr}}, {`<a title="{{.b}}">{{define f}}<a href="{{.a}}">{{end}}`, []int{attr, url}},
		{`<a title="{{.a}}{{define f}}<a href="{{.b}}">{{.c}}{{end}}{{.d}}">{{define g}}<style>"{{.e}}"</style>{{end}}{{.f}}`, []int{attr, url, text, attr, css, text}},
		{`<a {{define f}}{{.a}}{{end}}href={{define g}}<script>'{{.b}}'</script>{{end}}"{{.c}}">`, []int{text, js, url}},
		{`{{define f}}{{if .x}}<a href="{{.a}}">{{else}}{{range .y}}<b id="{{.b}}">{{end}}{{.c}}{{end}}{{end}}{{call f}}<script>"{{.d}}{{if .y}}{{.e}}{{end}}"</script>{{.f}}`, []int{url, attr, text, js, js, text}},
	} {
		inferIs(t, c.src, c.want, 0, api.OK)
		inferIs(t, c.src+c.src, slices.Concat(c.want, c.want), 0, api.OK)
		if !strings.Contains(c.src, "define") {
			inferIs(t, "{{if .x}}"+c.src+"{{else}}"+c.src+"{{.y}}{{end}}", slices.Concat(c.want, c.want, []int{text}), 0, api.OK)
			inferIs(t, "{{range .x}}"+c.src+`{{end}}<a href="{{.y}}">`+c.src, slices.Concat(c.want, []int{url}, c.want), 0, api.OK)
			inferIs(t, "{{define f}}"+c.src+"{{end}}"+c.src, slices.Concat(c.want, c.want), 0, api.OK)
		}
	}
}

// TestEscapersInOrder has all sequences of up to four Print nodes, each in a piece of its context.
func TestEscapersInOrder(t *testing.T) { // P16.2
	pieces := []string{`{{.a}}`, `<a title="{{.a}}">`, `<a href='{{.a}}'>`, `<script>'{{.a}}'</script>`, `<style>"{{.a}}"</style>`}
	forms := []func(srcs []string) string{
		func(srcs []string) string { return strings.Join(srcs, "") },
		func(srcs []string) string {
			return "{{if .x}}" + strings.Join(srcs, "{{else}}{{if .x}}") + strings.Repeat("{{end}}", len(srcs))
		},
		func(srcs []string) string {
			return "{{range .x}}" + strings.Join(srcs, "{{range .x}}") + strings.Repeat("{{end}}", len(srcs))
		},
		func(srcs []string) string { return strings.Join(srcs, "{{define f}}x{{end}}") },
		func(srcs []string) string {
			return "{{define f}}" + strings.Join(srcs, "{{end}}{{define g}}") + "{{end}}"
		},
		func(srcs []string) string {
			return "{{if .x}}" + srcs[0] + "{{else}}" + strings.Join(srcs[1:], "{{flush}}") + "{{end}}"
		},
	}
	var all func(srcs []string, want []int)
	all = func(srcs []string, want []int) {
		if len(srcs) > 0 {
			for _, form := range forms {
				inferIs(t, form(srcs), want, 0, api.OK)
			}
		}
		if len(srcs) == 4 {
			return
		}
		for escaper, piece := range pieces {
			all(append(slices.Clone(srcs), piece), append(slices.Clone(want), escaper))
		}
	}
	all(nil, nil)
}

// TestEndsElsewhere has lists that end in each place, with different nodes at their ends.
func TestEndsElsewhere(t *testing.T) { // P16.2
	for _, p := range places() {
		for _, before := range []string{"", "x{{.a}}", "{{if .a}}<b>{{else}}y{{end}}", "{{define f}}<b>{{end}}", p.to + p.back} {
			for _, end := range []string{"", "{{flush}}", "{{flush}}{{flush}}", "{{if .a}}{{flush}}{{else}}{{end}}", "{{range .a}}{{flush}}{{end}}", "{{define g}}x{{.a}}{{end}}", "{{define g}}x{{end}}{{if .a}}{{end}}", "{{if .a}}{{end}}{{flush}}"} {
				src := before + p.to + end
				l := parsed(t, src)
				if p.to == "" {
					inferIs(t, src, make([]int, strings.Count(src, "{{.a}}")), 0, api.OK)
					continue
				}
				inferIs(t, src, nil, l[len(l)-1].At, api.ErrJoin)
			}
		}
		if p.escaper != none && p.to != "" {
			inferIs(t, "{{flush}}"+p.to+"{{.x}}", nil, 9+len(p.to), api.ErrJoin)
			inferIs(t, "{{flush}}"+p.to+"{{.x}}{{.y}}z", nil, 9+len(p.to)+12, api.ErrJoin)
			inferIs(t, "{{flush}}"+p.to+"{{.x}}{{call f}}", nil, 9+len(p.to)+6, api.ErrContext)
		}
		if p.escaper == none {
			inferIs(t, p.to+"{{.x}}", nil, len(p.to), api.ErrContext)
			inferIs(t, p.to+"{{.x}}{{flush}}x", nil, len(p.to), api.ErrContext)
			inferIs(t, p.to+"{{if .a}}{{.x}}{{end}}{{flush}}", nil, len(p.to)+9, api.ErrContext)
			inferIs(t, p.to+"{{range .a}}{{flush}}{{call f}}{{end}}", nil, len(p.to)+21, api.ErrContext)
		}
	}
	inferIs(t, "{{if .a}}x{{else}}{{end}}{{if .a}}<b {{else}}<b {{end}}", nil, 25, api.ErrJoin)
	inferIs(t, "{{if .a}}<b {{else}}<b {{end}}{{if .a}}x={{else}}x={{end}}", nil, 30, api.ErrJoin)
	inferIs(t, "{{if .a}}<b {{else}}<b {{end}}{{if .a}}x={{else}}x{{end}}", nil, 30, api.ErrJoin)
	inferIs(t, "{{if .a}}<b {{else}}<b {{end}}{{if .a}}>{{else}}x>{{end}}{{.a}}", []int{text}, 0, api.OK)
	inferIs(t, "<", nil, 0, api.ErrJoin)
	inferIs(t, "{{flush}}<!--", nil, 9, api.ErrJoin)
	// The last node counts, not the last one that was parsed, and not the one that left the initial state.
	l := parsed(t, "{{if .a}}<b{{flush}}{{else}}<b{{flush}}{{end}}")
	if _, at, err := infer.Infer(l); at != 0 || err != api.ErrJoin {
		t.Fatal(at, err)
	}
	if _, at, err := infer.Infer(l[0].Body); at != 11 || err != api.ErrJoin {
		t.Fatal(at, err)
	}
	if _, at, err := infer.Infer(append(slices.Clone(l[0].Body[:1]), l[0].Else[1], l[0].Body[1])); at != 11 || err != api.ErrJoin {
		t.Fatal(at, err)
	}
}

// TestLargeTemplates has as many nodes, as much depth and as much text as a template can have.
func TestLargeTemplates(t *testing.T) { // P1, P16.1, P16.2
	inferIs(t, strings.Repeat("{{.}}", api.MaxNodes), make([]int, api.MaxNodes), 0, api.OK)
	inferIs(t, `<a href="`+strings.Repeat("{{.}}", api.MaxNodes-2)+`">`, slices.Repeat([]int{url}, api.MaxNodes-2), 0, api.OK)
	inferIs(t, `<a href=`+strings.Repeat("{{flush}}", api.MaxNodes-2)+`{{.}}`, nil, 8+9*(api.MaxNodes-2), api.ErrContext)
	inferIs(t, strings.Repeat("<", api.MaxTemplate), nil, 0, api.ErrJoin)
	inferIs(t, "<a "+strings.Repeat("x", api.MaxTemplate-10)+">{{.a}}", []int{text}, 0, api.OK)
	for _, open := range []string{"{{if .a}}", "{{range .a}}"} {
		deep := strings.Repeat(open, api.MaxNest)
		end := strings.Repeat("{{end}}", api.MaxNest)
		inferIs(t, deep+`<a href="{{.a}}">`+end, []int{url}, 0, api.OK)
		inferIs(t, deep+`<a href={{.a}}>`+end, nil, len(deep)+8, api.ErrContext)
		inferIs(t, deep+`<a href=`+end, nil, len(deep)-len(open), api.ErrJoin)
		inferIs(t, deep+"{{end}}<a "+end[7:], nil, len(deep)-2*len(open), api.ErrJoin)
		inferIs(t, deep+end[7:]+"<a {{end}}", nil, 0, api.ErrJoin)
		inferIs(t, deep+end+"<a ", nil, len(deep)+len(end), api.ErrJoin)
	}
	either := strings.Repeat("{{if .a}}<a {{else}}", api.MaxNest) + "<a " + strings.Repeat("{{end}}", api.MaxNest)
	leads(t, htmlctx.State{}, either, htmlctx.State{Ctx: htmlctx.Tag, Name: "a"})
	fails(t, htmlctx.State{}, strings.Replace(either, "<a ", "<b ", 1), 0, api.ErrJoin)
}
