package infer_test

import (
	"fmt"
	"math"
	"slices"
	"strings"
	"testing"

	"tmplpipe/api"
	"tmplpipe/htmlctx"
	"tmplpipe/infer"
	"tmplpipe/parse"
)

// none stands for the escaper of a state that has none.
const none = -1

// place is a place in a document: a text that leads there from the initial state, and one that leads back.
type place struct {
	to, back string
	state    htmlctx.State
	escaper  int
}

// places has each context, and within it the Parts, Names and Attrs that occur there.
func places() []place {
	tag := func(to, back string, ctx int, name, attr string, escaper int) place {
		return place{to, back, htmlctx.State{Ctx: ctx, Name: name, Attr: attr}, escaper}
	}
	part := func(to, back string, ctx int, part string) place {
		return place{to, back, htmlctx.State{Ctx: ctx, Part: part}, none}
	}
	return []place{
		{"", "", htmlctx.State{}, api.EscText},
		part("a<", "1", htmlctx.Text, "<"), part("b</", " ", htmlctx.Text, "</"), part("<!", ">", htmlctx.Text, "<!"), part("<!-", ">", htmlctx.Text, "<!-"),
		part("</b x", ">", htmlctx.EndTag, ""), part("<!doctype", ">", htmlctx.Markup, ""),
		part("<!--", "-->", htmlctx.Comment, ""), part("<!-- -", "->", htmlctx.Comment, "-"), part("<!-- --", ">", htmlctx.Comment, "--"),
		tag("<a ", ">", htmlctx.Tag, "a", "", none), tag("<B/", ">", htmlctx.Tag, "b", "", none), tag("<script ", "></script>", htmlctx.Tag, "script", "", none),
		tag("<a", ">", htmlctx.TagName, "a", "", none), tag("<Style", "></style>", htmlctx.TagName, "style", "", none), tag("<abcdefghijklmnopqr", ">", htmlctx.TagName, "abcdefghijklmnop", "", none),
		tag("<a x", ">", htmlctx.AttrName, "a", "x", none), tag("<a hre", ">", htmlctx.AttrName, "a", "hre", none), tag("<b x", ">", htmlctx.AttrName, "b", "x", none),
		tag("<a x ", ">", htmlctx.AfterName, "a", "x", none), tag("<a y ", ">", htmlctx.AfterName, "a", "y", none), tag("<b x ", ">", htmlctx.AfterName, "b", "x", none),
		tag("<a x=", ">", htmlctx.BeforeValue, "a", "x", none), tag("<a href=", ">", htmlctx.BeforeValue, "a", "href", none), tag("<b x= ", ">", htmlctx.BeforeValue, "b", "x", none),
		tag("<a x=y", ">", htmlctx.Unquoted, "a", "", none), tag("<b href=y", ">", htmlctx.Unquoted, "b", "", none),
		tag(`<a x="`, `">`, htmlctx.ValueDQ, "a", "", api.EscAttr), tag(`<b x="y`, `">`, htmlctx.ValueDQ, "b", "", api.EscAttr),
		tag(`<a x='`, `'>`, htmlctx.ValueSQ, "a", "", api.EscAttr), tag(`<b title='y"`, `'>`, htmlctx.ValueSQ, "b", "", api.EscAttr),
		tag(`<a href="`, `">`, htmlctx.URLDQ, "a", "", api.EscURL), tag(`<img src="/`, `">`, htmlctx.URLDQ, "img", "", api.EscURL),
		tag(`<a href='`, `'>`, htmlctx.URLSQ, "a", "", api.EscURL), tag(`<form action='?x=`, `'>`, htmlctx.URLSQ, "form", "", api.EscURL),
		tag(`<a onclick="`, `">`, htmlctx.RawDQ, "a", "", none), tag(`<b style="`, `">`, htmlctx.RawDQ, "b", "", none),
		tag(`<a style='`, `'>`, htmlctx.RawSQ, "a", "", none), tag(`<iframe srcdoc='`, `'>`, htmlctx.RawSQ, "iframe", "", none),
		part("<script>", "</script>", htmlctx.Script, ""), part("<script>a <", "</script>", htmlctx.Script, "<"), part("<script></SC", "</script>", htmlctx.Script, "</sc"),
		{`<script>x = "`, `</script>`, htmlctx.State{Ctx: htmlctx.JSDQ}, api.EscJS}, part(`<script>"<`, `"</script>`, htmlctx.JSDQ, "<"), part(`<script>"\`, `</script>`, htmlctx.JSDQ, `\`),
		{`<script>x = '`, `';</script>`, htmlctx.State{Ctx: htmlctx.JSSQ}, api.EscJS}, part(`<script>'</script`[:15], `</script>`, htmlctx.JSSQ, "</scri"), part(`<script>'\`, `</script>`, htmlctx.JSSQ, `\`),
		part("<style>", "</style>", htmlctx.Style, ""), part("<style>a <", "</style>", htmlctx.Style, "<"), part("<style></s", "</style>", htmlctx.Style, "</s"),
		{`<style>x: "`, `</style>`, htmlctx.State{Ctx: htmlctx.CSSDQ}, api.EscCSS}, part(`<style>"<`, `"</style>`, htmlctx.CSSDQ, "<"), part(`<style>"\`, `</style>`, htmlctx.CSSDQ, `\`),
		{`<style>x: '`, `';</style>`, htmlctx.State{Ctx: htmlctx.CSSSQ}, api.EscCSS}, part(`<style>'</styl`, `</style>`, htmlctx.CSSSQ, "</styl"), part(`<style>'\`, `</style>`, htmlctx.CSSSQ, `\`),
	}
}

// TestPlaces checks that the places are what they are said to be, and that they have every context.
func TestPlaces(t *testing.T) {
	contexts := map[int]bool{}
	for _, p := range places() {
		contexts[p.state.Ctx] = true
		if s := htmlctx.Run(htmlctx.State{}, p.to); s != p.state {
			t.Fatalf("%q leads to %+v", p.to, s)
		}
		if s := htmlctx.Run(p.state, p.back); s != (htmlctx.State{}) {
			t.Fatalf("%q leads from %q to %+v", p.back, p.to, s)
		}
	}
	if len(contexts) != htmlctx.CSSSQ+1 {
		t.Fatal(contexts)
	}
}

// parsed returns the nodes of a template.
func parsed(t *testing.T, src string) []api.Node {
	t.Helper()
	l, at, err := parse.Parse(src)
	if err != api.OK {
		t.Fatalf("Parse(%.300q) = %d, %v", src, at, err)
	}
	return l
}

// shown returns the beginning of the text of nodes.
func shown(l []api.Node) string { return fmt.Sprintf("%.900s", fmt.Sprintf("%+v", l)) }

// changeOffsets replaces each offset of a template.
func changeOffsets(l []api.Node, change func(at int) int) {
	for i := range l {
		l[i].At = change(l[i].At)
		changeOffsets(l[i].Body, change)
		changeOffsets(l[i].Else, change)
	}
}

// offsets returns changes of offsets: to equal ones, descending ones, extreme ones, and ones in no order.
func offsets() []func(at int) int {
	return []func(at int) int{
		func(at int) int { return at },
		func(at int) int { return 0 },
		func(at int) int { return 7 },
		func(at int) int { return -at },
		func(at int) int { return math.MaxInt - at },
		func(at int) int { return math.MinInt + at },
		func(at int) int { return at*7919%101 - 50 },
	}
}

// afterIs checks the results of After for a template, and for its nodes with other offsets.
func afterIs(t *testing.T, s htmlctx.State, src string, want htmlctx.State, wantAt int, wantErr api.Errno) {
	t.Helper()
	for _, change := range offsets() {
		l := parsed(t, src)
		changeOffsets(l, change)
		changed := change(wantAt)
		if wantErr == api.OK {
			changed = 0
		}
		if got, at, err := infer.After(s, l); got != want || at != changed || err != wantErr {
			t.Fatalf("After(%+v, %s) of %q = %+v, %d, %v, want %+v, %d, %v", s, shown(l), src, got, at, err, want, changed, wantErr)
		}
	}
}

// leads checks that a template leads from one state to another.
func leads(t *testing.T, s htmlctx.State, src string, want htmlctx.State) {
	t.Helper()
	afterIs(t, s, src, want, 0, api.OK)
}

// fails checks that the analysis of a template fails at the node with an offset.
func fails(t *testing.T, s htmlctx.State, src string, at int, err api.Errno) {
	t.Helper()
	afterIs(t, s, src, htmlctx.State{}, at, err)
}

// inferIs checks the results of Infer for a template, and for its nodes with other offsets.
func inferIs(t *testing.T, src string, want []int, wantAt int, wantErr api.Errno) {
	t.Helper()
	for _, change := range offsets() {
		l := parsed(t, src)
		changeOffsets(l, change)
		changed := change(wantAt)
		if wantErr == api.OK {
			changed = 0
		}
		if got, at, err := infer.Infer(l); !slices.Equal(got, want) || at != changed || err != wantErr {
			t.Fatalf("Infer(%s) of %q = %v, %d, %v, want %v, %d, %v", shown(l), src, got, at, err, want, changed, wantErr)
		}
	}
}

func TestExamples(t *testing.T) { // P16.1, P16.2
	inferIs(t, `<a href="{{.u}}">{{.t}}</a>`, []int{api.EscURL, api.EscText}, 0, api.OK)
	inferIs(t, "{{if .a}}<b {{end}}x", nil, 0, api.ErrJoin)
	fails(t, htmlctx.State{}, "{{if .a}}<b {{end}}x", 0, api.ErrJoin)
	inferIs(t, "<a {{.x}}>", nil, 3, api.ErrContext)
	leads(t, htmlctx.State{}, `<a href="{{.u}}`, htmlctx.State{Ctx: htmlctx.URLDQ, Name: "a"})
}

func TestEmptyList(t *testing.T) { // P16.1, P16.2
	for _, l := range [][]api.Node{nil, {}, make([]api.Node, 0, 3), parsed(t, "<a {{.x}}")[:0]} {
		for _, p := range places() {
			if s, at, err := infer.After(p.state, l); s != p.state || at != 0 || err != api.OK {
				t.Fatalf("After %q: %+v, %d, %v", p.to, s, at, err)
			}
		}
		if escapers, at, err := infer.Infer(l); len(escapers) != 0 || at != 0 || err != api.OK {
			t.Fatal(escapers, at, err)
		}
	}
}

// TestText leads from each place to each other one, with one Text and with one for each byte.
func TestText(t *testing.T) { // P16.1
	for _, p := range places() {
		for _, q := range places() {
			text := p.back + q.to
			l := []api.Node{{Kind: api.Text, At: 3, S: text}}
			if s, at, err := infer.After(p.state, l); s != q.state || at != 0 || err != api.OK {
				t.Fatalf("After %q, %q: %+v, %d, %v", p.to, text, s, at, err)
			}
			l = nil
			for i := range len(text) {
				l = append(l, api.Node{Kind: api.Text, At: 3 + i, S: text[i : i+1]})
			}
			if s, at, err := infer.After(p.state, l); s != q.state || at != 0 || err != api.OK {
				t.Fatalf("After %q, %q by bytes: %+v, %d, %v", p.to, text, s, at, err)
			}
		}
	}
}

// TestPrint has a Print at each place: alone, behind and before each other kind of node, and within each kind of block.
func TestPrint(t *testing.T) { // P16.1, P16.2
	for _, p := range places() {
		for _, form := range []string{
			"_", "{{flush}}_", "_{{flush}}", "{{flush}}_{{flush}}", "{{define f}}x{{.y}}{{end}}_", "_{{define f}}x{{.y}}{{end}}", "{{if .a}}{{end}}_", "{{if .a}}{{else}}{{flush}}{{end}}_", "{{range .b}}{{flush}}{{end}}_",
			"{{if .a}}_{{end}}", "{{if .a}}{{flush}}_{{else}}{{end}}", "{{if .a}}{{else}}_{{end}}", "{{range .a}}_{{end}}", "{{range .a}}{{flush}}_{{end}}", "{{if .a}}{{range .b}}{{if .c}}{{else}}_{{end}}{{end}}{{end}}",
			p.back + p.to + "_", "_" + p.back + p.to, "{{range .a}}" + p.back + p.to + "_" + p.back + p.to + "{{end}}", "{{if .a}}" + p.back + p.to + "{{else}}_" + p.back + p.to + "{{end}}",
		} {
			for _, directive := range []string{"{{.x}}", "{{.}}", "{{ .x.y }}"} {
				src := strings.Replace(form, "_", directive, 1)
				if p.escaper == none {
					fails(t, p.state, src, strings.Index(form, "_"), api.ErrContext)
				} else {
					leads(t, p.state, src, p.state)
				}
				whole := p.to + src + p.back
				switch {
				case p.escaper == none:
					inferIs(t, whole, nil, len(p.to)+strings.Index(form, "_"), api.ErrContext)
				case !strings.Contains(form, ".y"):
					inferIs(t, whole, []int{p.escaper}, 0, api.OK)
				case strings.HasPrefix(form, "_"):
					inferIs(t, whole, []int{p.escaper, api.EscText}, 0, api.OK)
				default:
					inferIs(t, whole, []int{api.EscText, p.escaper}, 0, api.OK)
				}
			}
		}
		// The Body of a definition is in the initial state, wherever the definition is.
		leads(t, p.state, "{{define f}}{{.x}}{{end}}", p.state)
		inferIs(t, p.to+"{{define f}}{{.x}}{{end}}"+p.back, []int{api.EscText}, 0, api.OK)
	}
}

// TestFlush has a Flush at each place, alone, behind and before text, and within blocks.
func TestFlush(t *testing.T) { // P16.1, P16.2
	for _, p := range places() {
		for _, q := range places() {
			leads(t, p.state, "{{flush}}"+p.back+q.to, q.state)
			leads(t, p.state, p.back+q.to+"{{flush}}", q.state)
		}
		for _, src := range []string{"{{flush}}", "{{flush}}{{flush}}{{flush}}", "{{if .a}}{{flush}}{{end}}", "{{if .a}}{{else}}{{flush}}{{end}}", "{{range .a}}{{flush}}{{end}}", "{{define f}}{{flush}}{{end}}"} {
			leads(t, p.state, src, p.state)
			inferIs(t, p.to+src+p.back, nil, 0, api.OK)
		}
	}
}

// TestCall has a Call at each place, as TestPrint has a Print.
func TestCall(t *testing.T) { // P16.1, P16.2
	for _, p := range places() {
		for _, form := range []string{
			"_", "{{flush}}_", "_{{flush}}", "{{define f}}x{{.y}}{{end}}_", "_{{define f}}x{{.y}}{{end}}", "{{if .a}}{{end}}_", "{{range .b}}{{flush}}{{end}}_",
			"{{if .a}}_{{end}}", "{{if .a}}{{flush}}_{{else}}{{end}}", "{{if .a}}{{else}}_{{end}}", "{{range .a}}_{{end}}", "{{if .a}}{{range .b}}{{if .c}}{{else}}_{{end}}{{end}}{{end}}",
			p.back + p.to + "_", "_" + p.back + p.to, "{{range .a}}" + p.back + p.to + "_" + p.back + p.to + "{{end}}",
		} {
			for _, directive := range []string{"{{call f}}", "{{call f .}}", "{{call g .x}}"} {
				src := strings.Replace(form, "_", directive, 1)
				var escapers []int
				if strings.Contains(form, ".y") {
					escapers = []int{api.EscText}
				}
				if p.state == (htmlctx.State{}) {
					leads(t, p.state, src, p.state)
					inferIs(t, src, escapers, 0, api.OK)
				} else {
					fails(t, p.state, src, strings.Index(form, "_"), api.ErrContext)
					inferIs(t, p.to+src+p.back, nil, len(p.to)+strings.Index(form, "_"), api.ErrContext)
				}
			}
		}
		leads(t, p.state, "{{define f}}{{call f}}{{end}}", p.state)
		inferIs(t, p.to+"{{define f}}{{call f}}{{end}}"+p.back, nil, 0, api.OK)
	}
	leads(t, htmlctx.State{}, "a{{call f}}<b", htmlctx.State{Ctx: htmlctx.TagName, Name: "b"})
	fails(t, htmlctx.State{}, "a{{call f}}<b{{call f}}", 13, api.ErrContext)
	leads(t, htmlctx.State{}, "a<b{{if .x}}>{{call f}}{{else}}>{{end}}{{call f}}", htmlctx.State{})
}

// TestOtherStates has states that no text leads to: only the zero State is the initial one, and only Ctx and Part decide
// about escapers.
func TestOtherStates(t *testing.T) { // P16.1
	for _, s := range []htmlctx.State{{Name: "a"}, {Attr: "x"}, {Part: "x"}, {Ctx: -1}, {Ctx: htmlctx.CSSSQ + 1}, {Ctx: math.MaxInt, Name: "a", Attr: "x", Part: "<"}, {Ctx: htmlctx.ValueDQ, Attr: "x"}} {
		fails(t, s, "{{flush}}{{call f}}", 9, api.ErrContext)
		leads(t, s, "{{flush}}{{if .a}}{{else}}{{end}}{{range .b}}{{flush}}{{end}}{{define f}}{{call f}}{{end}}", s)
		if _, ok := htmlctx.Escaper(s); ok {
			leads(t, s, "{{.x}}{{if .a}}{{.y}}{{end}}", s)
		} else {
			fails(t, s, "{{if .a}}{{.x}}{{end}}", 9, api.ErrContext)
		}
	}
}
