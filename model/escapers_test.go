package model_test

import (
	"math"
	"strconv"
	"strings"
	"testing"

	"tmplpipe/api"
	"tmplpipe/escape"
	"tmplpipe/model"
)

// context is a place in HTML, and the escaper that it has.
type context struct {
	before, behind string
	escaper        int
}

func contexts() []context {
	return []context{
		{"", "", api.EscText},
		{"<p>", "</p>", api.EscText},
		{"<!-- <a href='-->", "", api.EscText},
		{"<b title=\"", "\">", api.EscAttr},
		{"<b title='a", "b'/>", api.EscAttr},
		{"<a href=\"", "\">", api.EscURL},
		{"<img src='/a?", "&b' id=c>", api.EscURL},
		{"<script>x = \"", "\"</script>", api.EscJS},
		{"<script>'</script>x", "", api.EscText},
		{"<SCRIPT>f('", "')</SCRIPT>", api.EscJS},
		{"<style>p { content: \"", "\" }</style>", api.EscCSS},
		{"<style>'", "'</style>", api.EscCSS},
	}
}

// TestEveryEscaper has a value whose escaped forms are written down.
func TestEveryEscaper(t *testing.T) { // P18.2
	forms := [api.Escs]string{
		api.EscText: "&lt;&amp;/= &#34;\u00e9`\ufffd",
		api.EscAttr: "&lt;&amp;/&#61; &#34;\u00e9&#96;\ufffd",
		api.EscURL:  "%3C%26%2F%3D%20%22%C3%A9%60%EF%BF%BD",
		api.EscJS:   `\u003c\u0026\u002f\u003d \u0022` + "\u00e9" + `\u0060` + "\ufffd",
		api.EscCSS:  `\3c \26 \2f = \22 ` + "\u00e9`\ufffd",
	}
	for _, c := range contexts() {
		src := c.before + "{{.v.w}}" + c.behind
		p := provided(object{"v": object{"w": "<&/= \"\u00e9`\xff"}})
		want := model.Result{Out: c.before + forms[c.escaper] + c.behind, Steps: 1}
		for _, text := range []string{c.before, c.behind} {
			if text != "" {
				want.Steps++
			}
		}
		isResult(t, src, model.Render(compiled(t, src), p), want, p, "v")
	}
}

// printed are values that have a text, and those texts.
func printed() ([]any, []string) {
	values, texts := []any{}, []string{}
	for _, n := range []int{0, 1, -1, 10, -100, 123456789, math.MaxInt, math.MinInt} {
		values, texts = append(values, n), append(texts, strconv.Itoa(n))
	}
	for _, s := range []string{"", "a", "0", "-5", "<", "</script>", "\"'", "&amp;", "\\", "\n", "\x00", "\xff", "a\xe2\x82", "\u2028", "\U0001f600", "{{.x}}", "a b", strings.Repeat("<>", 5000)} {
		values, texts = append(values, s), append(texts, s)
	}
	for i := range 256 {
		values, texts = append(values, string(rune(i))), append(texts, string(rune(i)))
		values, texts = append(values, "a"+string([]byte{byte(i)})+"b"), append(texts, "a"+string([]byte{byte(i)})+"b")
	}
	return values, texts
}

// TestValuesWithEveryEscaper has values of the kinds that have a text, in each context, also in a loop and a definition.
func TestValuesWithEveryEscaper(t *testing.T) { // P18.2
	values, texts := printed()
	for _, c := range contexts() {
		src := "{{range .l}}" + c.before + "{{.}}" + c.behind + "{{end}}|{{call f}}{{define f}}" + c.before + "{{.x}}" + c.behind + "{{end}}"
		l := compiled(t, src)
		for i, v := range values {
			form, err := escape.Escape(c.escaper, texts[i])
			if err != api.OK {
				t.Fatal(err)
			}
			one := c.before + form + c.behind
			texts := 0
			for _, text := range []string{c.before, c.behind} {
				if text != "" {
					texts++
				}
			}
			p := provided(object{"l": list{v, v}, "x": v})
			isResult(t, src, model.Render(l, p), model.Result{Out: one + one + "|" + one, Steps: 1 + 2*(texts+2) + 1 + 1 + texts + 1}, p, "l x")
		}
	}
}

// TestValuesWithoutText has values of the kinds that have no text, in each context.
func TestValuesWithoutText(t *testing.T) { // P18.2
	for _, c := range contexts() {
		src := "x{{flush}}" + c.before + "{{.m.v}}" + c.behind + "{{.y}}"
		want := model.Result{Out: "x" + c.before, Flush: []int{1}, Steps: 3, At: 10 + len(c.before), Err: api.ErrType}
		if c.before != "" {
			want.Steps++
		}
		for _, v := range []any{false, true, list{}, list{"a"}, object{}, object{"v": "x"}} {
			p := provided(object{"m": object{"v": v}, "y": "z"})
			isResult(t, src, model.Render(compiled(t, src), p), want, p, "m")
		}
	}
}

// written replaces the digits in a description of output by the forms that the value of TestEscapersOfEachPrint has with
// these escapers.
func written(s string) string {
	return strings.NewReplacer("0", "&lt;/= ", "1", "&lt;/&#61; ", "2", "%3C%2F%3D%20", "3", `\u003c\u002f\u003d `, "4", `\3c \2f = `).Replace(s)
}

// TestEscapersOfEachPrint has several interpolations with different escapers, whose nodes are evaluated in another order
// than that of the source, several times or not at all.
func TestEscapersOfEachPrint(t *testing.T) { // P18.2
	data := object{"v": "</= ", "yes": true, "no": false, "l": list{"</= ", "</= "}, "none": list{}}
	for src, want := range map[string]string{
		"{{.v}}<b title='{{.v}}'><a href='{{.v}}'><script>'{{.v}}'</script><style>'{{.v}}'</style>{{.v}}":       "0<b title='1'><a href='2'><script>'3'</script><style>'4'</style>0",
		"<a href='{{if .no}}{{.v}}' title='{{.v}}{{else}}' id='{{.v}}{{end}}{{.v}}'>{{.v}}":                     "<a href='' id='11'>0",
		"<a href='{{if .yes}}{{.v}}' title='{{.v}}{{else}}' id='{{.v}}{{end}}{{.v}}'>{{.v}}":                    "<a href='2' title='11'>0",
		"{{if .no}}<a href='{{.v}}{{.v}}'>{{end}}<b title='{{.v}}'>{{.v}}":                                      "<b title='1'>0",
		"{{if .yes}}<a href='{{.v}}'>{{else}}{{.v}}{{.v}}<b id='{{.v}}'>{{end}}<style>'{{.v}}'</style>":         "<a href='2'><style>'4'</style>",
		"{{range .none}}<a href='{{.}}'>{{.}}{{end}}<script>'{{.v}}'</script>":                                  "<script>'3'</script>",
		"{{range .l}}<a href='{{.}}'>{{.}}<b id='{{.}}'>{{end}}<script>'{{.v}}'</script>":                       "<a href='2'>0<b id='1'><a href='2'>0<b id='1'><script>'3'</script>",
		"{{define f}}<a href='{{.v}}'>{{end}}<b id='{{.v}}'>{{call f}}{{.v}}":                                   "<b id='1'><a href='2'>0",
		"{{call f}}{{.v}}{{define f}}<a href='{{.v}}'>{{end}}<b id='{{.v}}'>{{call f}}":                         "<a href='2'>0<b id='1'><a href='2'>",
		"{{call g}}{{define f}}<a href='{{.v}}'>{{end}}{{.v}}{{define g}}<b id='{{.v}}'>{{call f}}{{end}}":      "<b id='1'><a href='2'>0",
		"<script>'{{define f}}<style>'{{.v}}'</style>{{end}}{{.v}}'</script>{{call f}}":                         "<script>'3'</script><style>'4'</style>",
		"<a {{if .yes}}href{{else}}href{{end}}='{{.v}}'>{{.v}}":                                                 "<a href='2'>0",
		"<b title='{{range .l}}{{.}},{{end}}' {{if .yes}}id{{else}}id{{end}}='{{.v}}'>{{range .l}}{{.}}{{end}}": "<b title='1,1,' id='1'>00",
	} {
		if r := model.Render(compiled(t, src), provided(data)); r.Out != written(want) || r.Err != api.OK {
			t.Errorf("Render of %q = %+v, want %q", src, r, written(want))
		}
	}
}

// TestOneBodyInSeveralPlaces has lists of nodes in which one Body, with its offsets, is in memory once and in the template
// several times, in different contexts.
func TestOneBodyInSeveralPlaces(t *testing.T) { // P18.2
	data := object{"v": "</= ", "yes": true, "no": false, "l": list{true, true}}
	l := compiled(t, "<a href='{{if .yes}}{{.v}}{{end}}' title='{{if .yes}}{{.v}}{{end}}'>{{if .no}}{{.v}}{{else}}{{.v}}{{end}}{{call f}}{{define f}}<style>'{{if .yes}}{{.v}}{{end}}'</style>{{end}}")
	body := l[1].Body
	l[3].Body, l[5].Body, l[5].Else = body, body, body
	l[7].Body[1].Body = body
	if r := model.Render(l, provided(data)); r.Out != written("<a href='2' title='1'>0<style>'4'</style>") || r.Steps != 14 || r.Err != api.OK {
		t.Errorf("%+v", r)
	}
}
