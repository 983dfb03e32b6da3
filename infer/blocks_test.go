package infer_test

import (
	"strings"
	"testing"

	"tmplpipe/api"
	"tmplpipe/htmlctx"
	"tmplpipe/infer"
)

// TestBranches has an If at some places whose branches lead to each pair of places.
func TestBranches(t *testing.T) { // P16.1, P16.2
	starts := places()
	for i, p := range starts {
		if i%6 != 0 && p.escaper == none {
			continue
		}
		for _, q := range places() {
			for _, r := range places() {
				l := []api.Node{{Kind: api.Text, At: 1, S: ""}, {
					Kind: api.If, At: 9, HasElse: true,
					Body: []api.Node{{Kind: api.Text, At: 11, S: p.back + q.to}}, Else: []api.Node{{Kind: api.Text, At: 13, S: p.back + r.to}},
				}}
				want, wantAt, wantErr := q.state, 0, api.OK
				if q.state != r.state {
					want, wantAt, wantErr = htmlctx.State{}, 9, api.ErrJoin
				}
				if s, at, err := infer.After(p.state, l); s != want || at != wantAt || err != wantErr {
					t.Fatalf("%q, %q and %q: %+v, %d, %v", p.to, q.to, r.to, s, at, err)
				}
			}
		}
	}
}

// TestOneBranch has an If at each place whose Else is missing, empty or only flushes, or whose Body is so.
func TestOneBranch(t *testing.T) { // P16.1, P16.2
	for _, p := range places() {
		for _, q := range places() {
			text := p.back + q.to
			for _, src := range []string{"{{if .a}}_{{end}}", "{{if .a}}_{{else}}{{end}}", "{{if .a}}_{{else}}{{flush}}{{end}}", "{{if .a}}{{else}}_{{end}}", "{{if .a}}{{flush}}{{else}}_{{end}}"} {
				src := strings.Replace(src, "_", text, 1)
				if p.state == q.state {
					leads(t, p.state, src, p.state)
					inferIs(t, p.to+src+p.back, nil, 0, api.OK)
				} else {
					fails(t, p.state, src, 0, api.ErrJoin)
					if p.to != "" {
						inferIs(t, p.to+src+p.back, nil, len(p.to), api.ErrJoin)
					}
				}
			}
		}
	}
}

// TestOneFieldDiffers has branches, and the Body of a Range, that lead to states that differ in one field.
func TestOneFieldDiffers(t *testing.T) { // P16.1
	for _, two := range [][2]string{
		{"<script>'", `<script>"`}, {"<style>", "<script>"}, {"<a", "<a "}, {"<a ", "<a x=y"}, {`<a x="`, `<a x='`}, {`<a x="`, `<a src="`}, {`<a x="`, `<a style="`}, {"<a x", "<a x "}, {"<a x ", "<a x="}, {"<!x", "</x"}, {"<!--", "<!x"}, {"<!--", ""}, {"</b", ""}, // Ctx
		{"<a", "<b"}, {"<a ", "<b "}, {"<a x", "<b x"}, {"<a x ", "<b x "}, {"<a x=", "<b x="}, {"<a x=y", "<b x=y"}, {`<a x="`, `<b x="`}, {"<a x='", "<b x='"}, {`<a href="`, `<b href="`}, {"<a src='", "<b src='"}, {`<a style="`, `<b style="`}, {"<a onx='", "<b onx='"}, {"<abcdefghijklmno", "<abcdefghijklmnop"}, {"<abcdefghijklmnop", "<abcdefghijklmnox"}, // Name
		{"<a x", "<a y"}, {"<a x", "<a xx"}, {"<a x ", "<a y "}, {"<a x=", "<a y="}, {"<a href=", "<a src="}, {"<a xxxxxxxxxxxxxxx", "<a xxxxxxxxxxxxxxxx"}, // Attr
		{"", "<"}, {"<", "</"}, {"</", "<!"}, {"<!", "<!-"}, {"<!--", "<!---"}, {"<!---", "<!----"}, {"<script>", "<script><"}, {"<script></", "<script></s"}, {"<script>'", `<script>'\`}, {"<script>'<", `<script>'\`}, {"<style>", "<style><"}, {`<style>"\`, `<style>"`}, {`<style>"</st`, `<style>"</sty`}, // Part
	} {
		for _, swapped := range [][2]string{two, {two[1], two[0]}} {
			body, other := swapped[0], swapped[1]
			fails(t, htmlctx.State{}, "x{{if .a}}"+body+"{{else}}"+other+"{{end}}", 1, api.ErrJoin)
			inferIs(t, "x{{flush}}{{if .a}}"+body+"{{else}}"+other+"{{end}}", nil, 10, api.ErrJoin)
			leads(t, htmlctx.State{}, "x{{if .a}}"+body+"{{else}}"+body+"{{end}}", htmlctx.Run(htmlctx.State{}, body))
		}
	}
}

// TestOtherBytes has branches that lead to one state by different bytes.
func TestOtherBytes(t *testing.T) { // P16.1
	for _, texts := range [][]string{
		{"", "a", "<b>", "</b>", "<!x>", "<!-- <a x= -->", `<a href="x">y</a>`, "<script></script>", "<style>'</style>", "< ", "</ ", "<!>", "<!->", "x > y"},
		{"<", "a<", "<<", "<b><", "</<", "<script></script><"}, {"<a ", "<A ", "<a/", "<a  \n", "<b><a x=y ", `<a x=""`, "<a x='y'/"},
		{`<a x="`, `<A X="`, `<a  x = "`, `<a href=''x="`, `<a x="y`, `<a y="`, `<a>z</a><a x=' '/z="<>`}, {`<a src="`, `<a href="`, `<a Action="x`, `<a formaction="?a=b`},
		{"<script>'", "<script src='x'>y = '", `<script>"x"+'z`, "<SCRIPT>'a'\n'"}, {"<!-- a", "<!--", "<!-- - ", "<!-- --a"}, {"<abcdefghijklmnop", "<abcdefghijklmnopqrst", "<ABCDEFGHIJKLMNOPx"},
	} {
		want := htmlctx.Run(htmlctx.State{}, texts[0])
		for _, body := range texts {
			for _, other := range texts {
				leads(t, htmlctx.State{}, "{{if .a}}"+body+"{{else}}"+other+"{{end}}", want)
				leads(t, htmlctx.State{}, "{{if .a}}{{if .b}}"+body+"{{else}}"+other+"{{end}}{{else}}{{flush}}"+body+"{{end}}", want)
			}
		}
	}
}

// TestRange has a Range at each place, whose Body leads to each other one.
func TestRange(t *testing.T) { // P16.1, P16.2
	for _, p := range places() {
		for _, q := range places() {
			src := "{{range .a}}{{flush}}" + p.back + q.to + "{{end}}"
			if p.state == q.state {
				leads(t, p.state, src, p.state)
				leads(t, p.state, src+p.back+"a<", htmlctx.State{Part: "<"})
				inferIs(t, p.to+src+p.back, nil, 0, api.OK)
			} else {
				fails(t, p.state, src, 0, api.ErrJoin)
				fails(t, p.state, "{{flush}}{{range .b}}{{end}}"+src+p.back, 28, api.ErrJoin)
				inferIs(t, "{{flush}}"+p.to+src, nil, 9+len(p.to), api.ErrJoin)
			}
		}
		leads(t, p.state, "{{range .}}{{end}}", p.state)
	}
}

// TestRangeOneFieldDiffers has Bodies that lead to a state that differs from that before in one field.
func TestRangeOneFieldDiffers(t *testing.T) { // P16.1
	for start, bodies := range map[string][]string{
		"":                 {"<", "</", "<!", "<!-", "<b", "<b ", "<!--", "</b"},
		"<a":               {"b", " ", "><b", "><a x"},
		"<a ":              {"x", "><b ", ">", "x=", "x=y"},
		"<a x":             {"y", " ", " y", "=", "/", "><b x", "><a y"},
		"<a x ":            {"y ", "=", "><b x ", "/"},
		"<a x=":            {`"`, "'", "y", "z y=", "><b x="},
		"<a x=y":           {" ", ">", "><b x=y"},
		`<a x="`:           {`"`, `" x='`, `" href="`, `" style="`, `"><b x="`},
		"<script>":         {"<", "'", `"`, "</s", "</script>"},
		"<script>'":        {"'", `\`, "<", "';\"", "</script><style>'"},
		"<!--":             {"-", "--", "-->", "--><!x"},
		"<!-- -":           {" ", "-", " --"},
		"<abcdefghijklmno": {"p", "px"},
	} {
		s := htmlctx.Run(htmlctx.State{}, start)
		for _, body := range bodies {
			fails(t, s, "{{range .a}}"+body+"{{end}}", 0, api.ErrJoin)
			inferIs(t, "y{{flush}}"+start+"{{range .a}}"+body+"{{end}}", nil, 10+len(start), api.ErrJoin)
		}
	}
	leads(t, htmlctx.Run(htmlctx.State{}, "<abcdefghijklmnop"), "{{range .a}}q{{end}}", htmlctx.State{Ctx: htmlctx.TagName, Name: "abcdefghijklmnop"})
}

// TestDefine has a Define at each place, whose Body leads from the initial state to each place.
func TestDefine(t *testing.T) { // P16.1, P16.2
	for _, p := range places() {
		for _, q := range places() {
			src := "{{define f}}{{.x}}" + q.to + "{{end}}"
			if q.to == "" {
				leads(t, p.state, src, p.state)
				leads(t, p.state, src+p.back+"a<", htmlctx.State{Part: "<"})
				leads(t, p.state, p.back+src, htmlctx.State{})
				inferIs(t, p.to+src+p.back, []int{api.EscText}, 0, api.OK)
			} else {
				fails(t, p.state, src, 0, api.ErrJoin)
				fails(t, p.state, "{{flush}}{{define g}}{{end}}"+src, 28, api.ErrJoin)
				inferIs(t, "{{flush}}"+p.to+src+p.back, nil, 9+len(p.to), api.ErrJoin)
			}
			// A Body that leads away and back, in which there is an interpolation.
			src = "{{define f}}" + q.to + "{{.x}}" + q.back + "{{end}}"
			if q.escaper == none {
				fails(t, p.state, src, 12+len(q.to), api.ErrContext)
			} else {
				leads(t, p.state, src, p.state)
				inferIs(t, p.to+src+p.back, []int{q.escaper}, 0, api.OK)
			}
		}
	}
}

// TestFirstFault has several faults, of which the one that the analysis meets first counts.
func TestFirstFault(t *testing.T) { // P16.1, P16.2
	for _, c := range []struct {
		src string
		at  int
		err api.Errno
	}{
		{"<a {{.x}}{{.y}}", 3, api.ErrContext}, {"<a {{call f}}{{.y}}", 3, api.ErrContext}, {"<a {{.y}}{{call f}}", 3, api.ErrContext}, {"<a {{flush}}{{.y}}{{call f}}", 12, api.ErrContext},
		{"<a {{if .b}}{{.x}}{{else}}{{.y}}{{end}}", 12, api.ErrContext}, {"<a {{if .b}}{{else}}{{.y}}{{end}}", 20, api.ErrContext}, {"<a {{if .b}}{{.x}}{{end}}", 12, api.ErrContext},
		{"<a {{if .b}}{{call f}}{{else}}{{.y}}{{end}}", 12, api.ErrContext}, {"<a {{if .b}}x{{else}}{{call f}}{{end}}", 21, api.ErrContext},
		{"{{if .b}}<a {{else}}<a {{.y}}{{end}}", 23, api.ErrContext}, {"{{if .b}}<a {{else}}{{.y}}{{end}}", 0, api.ErrJoin}, {"{{if .b}}<a {{.x}}{{else}}<a {{.y}}{{end}}", 12, api.ErrContext},
		{"{{if .b}}{{if .c}}<{{end}}{{else}}<a {{.y}}{{end}}", 9, api.ErrJoin}, {"{{if .b}}{{else}}{{if .c}}<{{end}}{{end}}", 17, api.ErrJoin}, {"{{if .b}}<a {{else}}{{range .c}}<{{end}}{{end}}", 20, api.ErrJoin},
		{"{{if .b}}<a {{end}}<{{.y}}", 0, api.ErrJoin}, {"{{if .b}}<a {{end}}{{range .b}}<{{end}}", 0, api.ErrJoin}, {"{{range .b}}<a {{end}}{{if .b}}<{{end}}", 0, api.ErrJoin}, {"{{define f}}<a {{end}}{{if .b}}<{{end}}", 0, api.ErrJoin},
		{"{{range .b}}{{if .c}}<a {{end}}{{end}}", 12, api.ErrJoin}, {"{{range .b}}<{{.x}}{{end}}", 13, api.ErrContext}, {"{{range .b}}x<{{if .c}}1{{else}} {{end}}<{{end}}", 0, api.ErrJoin}, {"<a{{range .b}} {{end}}", 2, api.ErrJoin},
		{"{{range .b}}{{range .c}}{{range .d}}<{{end}}{{end}}{{end}}", 24, api.ErrJoin}, {"{{if .b}}{{if .c}}{{if .d}}<{{end}}{{end}}{{end}}", 18, api.ErrJoin}, {"{{if .b}}{{if .c}}{{if .d}}{{end}}<{{end}}{{end}}", 9, api.ErrJoin}, {"{{if .b}}{{if .c}}{{if .d}}{{end}}{{end}}<{{end}}", 0, api.ErrJoin},
		{"{{if .b}}{{if .c}}<{{else}}<{{end}}{{else}}{{if .c}}<{{else}}{{end}}{{end}}", 43, api.ErrJoin}, {"{{if .b}}{{if .c}}<{{else}}<{{end}}{{else}}{{if .c}}{{else}}{{end}}{{end}}", 0, api.ErrJoin},
		{"{{define f}}{{if .c}}<a {{end}}{{end}}", 12, api.ErrJoin}, {"{{define f}}<a {{range .x}}y{{end}}{{end}}", 15, api.ErrJoin}, {"{{define f}}<a {{.x}}{{end}}", 15, api.ErrContext}, {"{{define f}}<a {{end}}{{define f}}<{{end}}", 0, api.ErrJoin}, {"<a {{define f}}{{end}}{{.x}}", 22, api.ErrContext},
		{"x{{define f}}{{call f}}{{end}}{{define g}}<a {{call f}}{{end}}", 45, api.ErrContext}, {"{{define f}}a{{range .x}}{{if .y}}<b>{{else}}<b{{end}}{{end}}{{end}}", 25, api.ErrJoin},
	} {
		fails(t, htmlctx.State{}, c.src, c.at, c.err)
		inferIs(t, c.src, nil, c.at, c.err)
		fails(t, htmlctx.State{}, c.src+"{{if .z}}<{{end}}{{.w}}", c.at, c.err)
		inferIs(t, "{{.v}}"+c.src, nil, 6+c.at, c.err)
		if !strings.Contains(c.src, "define") {
			inferIs(t, "{{if .v}}{{range .w}}"+c.src+"{{end}}{{else}}{{end}}", nil, 21+c.at, c.err)
			inferIs(t, "{{if .v}}{{else}}{{range .w}}"+c.src+"{{end}}{{end}}", nil, 29+c.at, c.err)
			inferIs(t, "{{define v}}"+c.src+"{{end}}", nil, 12+c.at, c.err)
		}
	}
}
