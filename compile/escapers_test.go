package compile_test

import (
	"slices"
	"strings"
	"testing"

	"tmplpipe/api"
	"tmplpipe/compile"
)

// place is a place in a document: a text that leads there, the escaper of values there, and a text that leads back.
type place struct {
	to      string
	escaper int
	back    string
}

// places has the contexts that have an escaper.
func places() []place {
	return []place{
		{"", api.EscText, ""}, {"<p>", api.EscText, "</p>"},
		{`<p title="`, api.EscAttr, `">`}, {"<p title='", api.EscAttr, "'>"},
		{`<a href="`, api.EscURL, `">`}, {"<a href='/", api.EscURL, "'>"},
		{`<script>"`, api.EscJS, `"</script>`}, {"<script>x = '", api.EscJS, "'</script>"},
		{`<style>"`, api.EscCSS, `"</style>`}, {"<style>x: '", api.EscCSS, "'</style>"},
	}
}

// with returns the source of a print at a place, and its code in the notation.
func (p place) with(path string) (src, notation string) {
	print := "print ." + path + " " + escapers()[p.escaper]
	if p.to == "" {
		return "{{." + path + "}}", print
	}
	return p.to + "{{." + path + "}}" + p.back, "text " + p.to + "|" + print + "|text " + p.back
}

// TestPrints has a print of each escaper alone, in each kind of block and in a definition.
func TestPrints(t *testing.T) { // P17.1
	for _, p := range places() {
		src, notation := p.with("x")
		code := coded(notation)
		codeIs(t, src, append(slices.Clone(code), api.Ins{Op: api.OpHalt}))
		n := len(code)
		codeIs(t, "{{if .a}}"+src+"{{end}}", slices.Concat([]api.Ins{{Op: api.OpIf, Path: "a", To: n + 1}}, code, coded("halt")))
		codeIs(t, "{{if .a}}{{else}}"+src+"{{end}}", slices.Concat([]api.Ins{{Op: api.OpIf, Path: "a", To: 2}, {Op: api.OpJump, To: n + 2}}, code, coded("halt")))
		codeIs(t, "{{range .a}}"+src+"{{end}}", slices.Concat([]api.Ins{{Op: api.OpRange, Path: "a", To: n + 2}}, code, coded("next 1|halt")))
		codeIs(t, "{{define f}}"+src+"{{end}}", slices.Concat(coded("halt"), code, coded("ret")))
		codeIs(t, "{{define f}}"+src+"{{end}}{{.y}}", slices.Concat(coded("print .y html|halt"), code, coded("ret")))
	}
}

// TestBlocksAtPlaces has blocks around prints in a context, which the blocks do not leave.
func TestBlocksAtPlaces(t *testing.T) { // P17.1
	for _, p := range places()[1:] {
		print := "print .x " + escapers()[p.escaper]
		for _, c := range [][2]string{
			{"{{if .a}}{{.x}}{{end}}", "if .a 3|" + print},
			{"{{if .a}}{{.x}}{{else}}{{.x}}{{flush}}{{end}}", "if .a 4|" + print + "|jump 6|" + print + "|flush"},
			{"{{range .a}}{{.x}}{{end}}", "range .a 4|" + print + "|next 2"},
			{"{{define f}}{{.x}}{{end}}{{.x}}", print},
			{"{{.x}}{{define f}}{{.x}}{{end}}{{.x}}", print + "|" + print},
		} {
			ends := "|halt"
			if strings.Contains(c[0], "define") {
				ends = "|halt|print .x html|ret"
			}
			codeIs(t, p.to+c[0]+p.back, coded("text "+p.to+"|"+c[1]+"|text "+p.back+ends))
		}
	}
}

// TestEscapersInOrder has a print of each escaper in the parts of a template: in the source, definitions stand in another
// order than their code, and before, between and behind the main nodes.
func TestEscapersInOrder(t *testing.T) { // P17.1
	var parts []struct{ src, notation string }
	for i, p := range places() {
		path := "p" + string(rune('a'+i))
		src, notation := p.with(path)
		parts = append(parts, struct{ src, notation string }{src, notation})
	}
	for i := range parts {
		for j := range parts {
			for k := range parts {
				a, b, c := parts[i], parts[j], parts[k]
				codeIs(t, a.src+"{{flush}}"+b.src+"{{flush}}"+c.src, coded(a.notation+"|flush|"+b.notation+"|flush|"+c.notation+"|halt"))
				codeIs(t, "{{define f}}"+a.src+"{{end}}"+b.src+"{{define g}}"+c.src+"{{end}}", coded(b.notation+"|halt|"+a.notation+"|ret|"+c.notation+"|ret"))
				codeIs(t, a.src+"{{define f}}"+b.src+"{{end}}{{flush}}"+c.src, coded(a.notation+"|flush|"+c.notation+"|halt|"+b.notation+"|ret"))
				codeIs(t, "{{define g}}"+a.src+"{{end}}{{define f}}"+b.src+"{{end}}"+c.src, coded(c.notation+"|halt|"+a.notation+"|ret|"+b.notation+"|ret"))
			}
		}
	}
}

// TestEscapersInBranches has a print of each escaper in the Body and in the Else of an If, and behind it.
func TestEscapersInBranches(t *testing.T) { // P17.1
	for _, p := range places() {
		for _, q := range places() {
			for _, r := range places() {
				a, inBody := p.with("x")
				b, inElse := q.with("y")
				c, behind := r.with("z")
				src := "{{if .a}}" + a + "{{else}}" + b + "{{end}}{{flush}}" + c
				n, m := len(coded(inBody)), len(coded(inElse))
				want := slices.Concat([]api.Ins{{Op: api.OpIf, Path: "a", To: n + 2}}, coded(inBody), []api.Ins{{Op: api.OpJump, To: n + m + 2}}, coded(inElse), coded("flush|"+behind+"|halt"))
				codeIs(t, src, want)
			}
		}
	}
}

// TestContextFromBranches has a print in a context that both branches lead to.
func TestContextFromBranches(t *testing.T) { // P17.1
	codeIs(t, `<a {{if .a}}href="{{else}}src="x" href="/{{.b}}{{end}}{{.c}}">{{.d}}`, coded(`text <a |if .a 4|text href="|jump 6|text src="x" href="/|print .b url|print .c url|text ">|print .d html|halt`))
	codeIs(t, `<style>{{range .a}}x: '{{.}}';{{end}}</style><b title='{{.c}}'>`, coded(`text <style>|range .a 6|text x: '|print . css|text ';|next 2|text </style><b title='|print .c attr|text '>|halt`))
}

// TestManyEscapers has hundreds of prints, with the escapers in turn.
func TestManyEscapers(t *testing.T) { // P17.1
	var src strings.Builder
	var want, inDefinition []api.Ins
	src.WriteString("{{define f}}")
	for i := range 300 {
		s, notation := places()[i*7%10].with("x")
		src.WriteString(s + "{{flush}}")
		inDefinition = append(inDefinition, coded(notation+"|flush")...)
	}
	src.WriteString("{{end}}")
	for i := range 300 {
		s, notation := places()[i*3%10].with("y")
		src.WriteString(s + "{{flush}}")
		want = append(want, coded(notation+"|flush")...)
	}
	want = slices.Concat(want, coded("halt"), inDefinition, coded("ret"))
	if code, at, err := compile.Compile(src.String()); !slices.Equal(code, want) || at != 0 || err != api.OK {
		t.Fatal(shown(code), at, err)
	}
}
