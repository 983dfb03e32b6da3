package model_test

import (
	"fmt"
	"slices"
	"strconv"
	"strings"
	"testing"

	"tmplpipe/api"
	"tmplpipe/compile"
	"tmplpipe/escape"
	"tmplpipe/infer"
	"tmplpipe/lex"
	"tmplpipe/model"
	"tmplpipe/parse"
)

// A description of the evaluation by the tokens of the source, without nodes: a position among them goes forward, back at
// the End of a Range that has more items, and to a definition and back.

// frame is a loop or a call that has not ended.
type frame struct {
	isCall bool
	begin  int // the position of the Range or the Call
	items  []any
	scope  any // outside
}

// root is the scope of the beginning.
type root struct{}

// runner follows the tokens.
type runner struct {
	tokens   []lex.Token
	escapers map[int]int // of the Print tokens, by their positions
	begins   map[int]int // the positions of the tokens that open blocks, by those of their End and Else
	elses    map[int]int // those of the Else, by those of the If
	ends     map[int]int // those of the End
	data     map[string]any
	failing  []string
	pulls    []string
	position int
	scope    any
	frames   []frame
	out      []byte
	result   model.Result
}

func newRunner(src string, escapers []int, data object, failing []string) *runner {
	r := &runner{scope: root{}, data: data, failing: failing, escapers: map[int]int{}, begins: map[int]int{}, elses: map[int]int{}, ends: map[int]int{}}
	r.tokens, _, _ = lex.Lex(src)
	var open []int
	for i, token := range r.tokens {
		switch token.Kind {
		case api.Print: // the escapers are in the order of the source
			r.escapers[i], escapers = escapers[0], escapers[1:]
		case api.If, api.Range, api.Define:
			open = append(open, i)
		case lex.Else:
			r.begins[i] = open[len(open)-1]
			r.elses[open[len(open)-1]] = i
		case lex.End:
			r.begins[i] = open[len(open)-1]
			r.ends[open[len(open)-1]] = i
			open = open[:len(open)-1]
		}
	}
	return r
}

// find returns the value at a path, or the error.
func (r *runner) find(path string) (any, api.Errno) {
	names := strings.FieldsFunc(path, func(c rune) bool { return c == '.' })
	at := r.scope
	if _, isRoot := r.scope.(root); isRoot {
		if len(names) == 0 {
			return nil, api.ErrType
		}
		if !slices.Contains(r.pulls, names[0]) {
			r.pulls = append(r.pulls, names[0])
		}
		x, ok := r.data[names[0]]
		if slices.Contains(r.failing, names[0]) {
			return nil, api.ErrProvider
		} else if !ok {
			return nil, api.ErrMissing
		}
		at, names = x, names[1:]
	}
	for _, name := range names {
		m, isMap := at.(object)
		x, ok := m[name]
		if !isMap {
			return nil, api.ErrType
		} else if !ok {
			return nil, api.ErrMissing
		}
		at = x
	}
	return at, api.OK
}

// run follows the tokens to their end or to a failure.
func (r *runner) run() model.Result {
	for r.position < len(r.tokens) && r.result.Err == api.OK {
		token := r.tokens[r.position]
		switch token.Kind {
		case api.Define:
			r.position = r.ends[r.position]
		case lex.Else:
			r.position = r.ends[r.begins[r.position]]
		case lex.End:
			r.end()
		default:
			r.step(token, r.evaluate)
		}
		r.position++
	}
	r.result.Out = string(r.out)
	return r.result
}

// step does something for a token, and counts it.
func (r *runner) step(token lex.Token, do func(token lex.Token) api.Errno) {
	err := api.ErrLimit
	if r.result.Steps < 20000 {
		r.result.Steps++
		err = do(token)
	}
	if err != api.OK {
		r.result.At, r.result.Err = token.At, err
	}
}

// end is at the End of a block.
func (r *runner) end() {
	begin := r.tokens[r.begins[r.position]]
	last := len(r.frames) - 1
	switch begin.Kind {
	case api.Define:
		r.position, r.scope = r.frames[last].begin, r.frames[last].scope
		r.frames = r.frames[:last]
	case api.Range:
		r.step(begin, func(lex.Token) api.Errno {
			f := &r.frames[last]
			if f.items = f.items[1:]; len(f.items) > 0 {
				r.position, r.scope = f.begin, f.items[0]
			} else {
				r.scope = f.scope
				r.frames = r.frames[:last]
			}
			return api.OK
		})
	}
}

func (r *runner) write(s string) api.Errno {
	if len(r.out)+len(s) > 262144 {
		return api.ErrLimit
	}
	r.out = append(r.out, s...)
	return api.OK
}

func (r *runner) evaluate(token lex.Token) api.Errno {
	switch token.Kind {
	case api.Text:
		return r.write(token.S)
	case api.Flush:
		r.result.Flush = append(r.result.Flush, len(r.out))
		return api.OK
	case api.Call:
		return r.call(token)
	}
	x, err := r.find(token.Path)
	if err != api.OK {
		return err
	}
	switch x := x.(type) {
	case string, int:
		if token.Kind == api.Print {
			form, _ := escape.Escape(r.escapers[r.position], fmt.Sprint(x))
			return r.write(form)
		}
	case bool:
		if token.Kind == api.If {
			r.choose(x)
			return api.OK
		}
	case list:
		if token.Kind == api.Range {
			r.begin(x)
			return api.OK
		}
	}
	return api.ErrType
}

// choose is at an If.
func (r *runner) choose(yes bool) {
	if behind, ok := r.elses[r.position]; !yes && ok {
		r.position = behind
	} else if !yes {
		r.position = r.ends[r.position]
	}
}

// begin is at a Range over items.
func (r *runner) begin(items list) {
	if len(items) == 0 {
		r.position = r.ends[r.position]
		return
	}
	r.frames = append(r.frames, frame{begin: r.position, items: items, scope: r.scope})
	r.scope = items[0]
}

func (r *runner) call(token lex.Token) api.Errno {
	depth := 0
	for _, f := range r.frames {
		if f.isCall {
			depth++
		}
	}
	if depth == 16 {
		return api.ErrDepth
	}
	scope := r.scope
	if token.Path != "" {
		x, err := r.find(token.Path)
		if err != api.OK {
			return err
		}
		scope = x
	}
	r.frames = append(r.frames, frame{isCall: true, begin: r.position, scope: r.scope})
	r.scope = scope
	r.position = slices.IndexFunc(r.tokens, func(t lex.Token) bool { return t.Kind == api.Define && t.S == token.S })
	return api.OK
}

// isAs compares the rendering of a template that is accepted with what the description says, and returns its error.
func isAs(t *testing.T, src string, l []api.Node, data object, failing ...string) api.Errno {
	t.Helper()
	escapers, _, _ := infer.Infer(l)
	r := newRunner(src, escapers, data, failing)
	want := r.run()
	p := provided(data, failing...)
	result := model.Render(l, p)
	isResult(t, src, result, want, p, strings.Join(r.pulls, " "))
	if t.Failed() {
		t.Fatal(data)
	}
	return want.Err
}

// sequences calls see with all sequences of up to a number of pieces that are accepted between two others.
func sequences(most int, before string, pieces []string, behind string, see func(src string, l []api.Node)) {
	var more func(src string, left int)
	more = func(src string, left int) {
		if l, _, err := parse.Parse(src + behind); err == api.OK {
			if _, _, err := compile.Code(l); err == api.OK {
				see(src+behind, l)
			}
		}
		if _, _, err := parse.Parse(src); left == 0 || err != api.OK && err != api.ErrTruncated {
			return
		}
		for _, p := range pieces {
			more(src+p, left-1)
		}
	}
	more(before, most)
}

// worlds are data for the names a, b, m and x.
func worlds() []object {
	small := object{"a": true, "b": list{}, "m": object{"x": "'"}, "x": "/"}
	return []object{
		{"a": true, "b": list{object{"a": false, "b": list{small, small}, "m": small, "x": 7}, small}, "m": object{"a": false, "b": list{small}, "m": small, "x": "<="}, "x": -1},
		{"a": false, "b": list{small, object{"a": false, "b": list{true}}}, "m": object{"x": 5, "a": true}, "x": "&"},
		{"a": false, "b": list{"s", 1, true}, "m": "\n", "x": true},
		{"a": list{small}, "b": list{list{true, false}, list{}, list{list{}, list{true}, list{list{true}}}, list{small}}, "m": list{}},
		{"a": true, "b": list{list{list{list{true, true}, list{}}, list{list{}, list{false}}}, list{}}, "m": object{"m": object{"x": "\""}, "x": "\x00"}, "x": ""},
	}
}

// TestAllSequences has all templates of some pieces.
func TestAllSequences(t *testing.T) { // P18.2, P18.3
	for _, set := range []struct {
		most                   int
		before, pieces, behind string
	}{
		{5, "", "y|{{.x}}|{{flush}}|{{if .a}}|{{else}}|{{range .b}}|{{end}}|{{define f}}|{{call f}}", ""},
		{6, "", "{{.x}}|{{if .a}}|{{else}}|{{range .b}}|{{end}}|{{define f}}|{{call f .m}}", ""},
		{6, "", "{{.}}|{{.x}}|{{if .a}}|{{range .b}}|{{end}}", ""},
		{6, "", "{{if .a}}|{{else}}|{{end}}|y|{{flush}}", ""},
		{6, "-{{range .b}}", "{{range .}}|{{if .}}|{{else}}|{{end}}|{{.}}|{{flush}}", "{{end}}+{{.m.x}}"},
		{5, "-{{range .b}}", "{{range .b}}|{{if .a}}|{{else}}|{{end}}|{{.x}}|{{call f}}|{{call f .b}}", "{{flush}}{{end}}{{define f}}({{range .}}{{flush}}{{.x}}{{end}}){{end}}"},
		{6, "", "{{define f}}|{{end}}|{{call f}}|{{call f .m}}|{{.m.x}}", ""},
		{6, "", "{{define f}}|{{define g}}{{.x}}|{{end}}|{{call f .}}|{{call g .m}}|y", ""},
		{5, "", "<a href='|<b title='|'>|{{.x}}|{{if .a}}|{{else}}|{{end}}|{{range .b}}", ""},
		{5, "", "<script>'|'</script>|{{.x}}|{{range .b}}|{{end}}|{{call f}}|{{define f}}", ""},
	} {
		count := map[api.Errno]int{}
		sequences(set.most, set.before, strings.Split(set.pieces, "|"), set.behind, func(src string, l []api.Node) {
			for _, data := range worlds() {
				count[isAs(t, src, l, data)]++
			}
			count[isAs(t, src, l, worlds()[0], "x")]++
		})
		if count[api.OK] < 100 {
			t.Error(set.pieces, count)
		}
	}
}

// numbers yields numbers in no order, the same at each start.
type numbers uint64

func (n *numbers) below(most int) int {
	*n = *n*6364136223846793005 + 1442695040888963407
	return int(uint64(*n) >> 33 % uint64(most))
}

// object returns an irregular map: t and u are mostly bools, s and n are text, k and l are lists, and m is a map.
func (n *numbers) object(depth int) object {
	o := object{"t": n.below(2) == 0, "u": n.below(3) > 0, "s": []string{"", "<b>", "'/ ", "\xff\n", strings.Repeat("&", n.below(40))}[n.below(5)], "n": n.below(2000) - 1000}
	if depth > 0 {
		o["m"] = n.object(depth - 1)
		o["k"] = n.list(depth-1, 5)
		o["l"] = n.list(depth-1, 3)
	}
	if n.below(50) == 0 {
		delete(o, []string{"t", "u", "s", "n", "k", "l", "m"}[n.below(7)])
	}
	if n.below(30) == 0 {
		o[[]string{"t", "u", "s", "n", "k", "l", "m"}[n.below(7)]] = []any{"", 0, true, list{}, object{}}[n.below(5)]
	}
	return o
}

// list returns an irregular list of mostly maps, with less than most items.
func (n *numbers) list(depth, most int) list {
	l := list{}
	for range n.below(most) {
		if n.below(40) == 0 {
			l = append(l, []any{"s", 5, true, list{"x"}}[n.below(4)])
		} else {
			l = append(l, n.object(depth))
		}
	}
	return l
}

// nodes returns the source of irregular nodes, with calls of the definitions d0, d1, and so on.
func (n *numbers) nodes(depth, definitions int) string {
	var b strings.Builder
	for range n.below(6) {
		kind := n.below(14)
		if depth == 0 {
			kind %= 8
		}
		print := []string{"{{.s}}", "{{.n}}", "{{.m.s}}", "{{.m.m.n}}"}[n.below(4)]
		switch kind {
		case 0, 1:
			b.WriteString([]string{"x", "<p>y</p>", "}}", "<!-- z -->"}[n.below(4)])
		case 2, 3:
			b.WriteString(print)
		case 4:
			b.WriteString([]string{"<a href='" + print + "'>", "<b title=\"{{if .t}}" + print + "{{else}}{{flush}}{{end}}\">", "<script>'" + print + "'</script>", "<style>'{{range .l}}" + print + "{{end}}'</style>"}[n.below(4)])
		case 5:
			b.WriteString("{{flush}}")
		case 6, 7:
			if definitions > 0 {
				b.WriteString("{{call d" + strconv.Itoa(n.below(definitions)) + []string{"", " .", " .m", " .m.m"}[n.below(4)] + "}}")
			}
		case 8, 9:
			b.WriteString("{{if ." + []string{"t", "u", "m.t"}[n.below(3)] + "}}" + n.nodes(depth-1, definitions) + "{{end}}")
		case 10, 11:
			b.WriteString("{{if ." + []string{"t", "u", "m.u"}[n.below(3)] + "}}" + n.nodes(depth-1, definitions) + "{{else}}" + n.nodes(depth-1, definitions) + "{{end}}")
		case 12, 13:
			b.WriteString("{{range ." + []string{"k", "l", "m.k"}[n.below(3)] + "}}" + n.nodes(depth-1, definitions) + "{{end}}")
		}
	}
	return b.String()
}

// template returns the source of an irregular template, with definitions among the main nodes.
func (n *numbers) template() string {
	var b strings.Builder
	definitions := n.below(5)
	for i := range definitions {
		b.WriteString(n.nodes(n.below(3), definitions))
		b.WriteString("{{define d" + strconv.Itoa(i) + "}}" + n.nodes(n.below(3), definitions) + "{{end}}")
	}
	b.WriteString(n.nodes(n.below(5), definitions))
	return b.String()
}

// TestIrregular has irregular templates with irregular data.
func TestIrregular(t *testing.T) { // P18.2, P18.3
	var n numbers
	count := map[api.Errno]int{}
	for range 5000 {
		src := n.template()
		l := compiled(t, src)
		for depth := range 4 {
			var failing []string
			if n.below(20) == 0 {
				failing = append(failing, []string{"t", "m", "k", "s"}[n.below(4)])
			}
			count[isAs(t, src, l, n.object(depth), failing...)]++
		}
	}
	for err, least := range map[api.Errno]int{api.OK: 5000, api.ErrMissing: 1000, api.ErrType: 500, api.ErrProvider: 100, api.ErrDepth: 500} {
		if count[err] < least {
			t.Error(count)
		}
	}
}

// TestGreatTemplates has templates with many nodes, blocks, definitions, steps and much output.
func TestGreatTemplates(t *testing.T) { // P18.2, P18.3
	tree := "{{call d0}}" // of calls, of which d15 would be called 32768 times
	for i := range 15 {
		tree += fmt.Sprintf("{{define d%d}}{{call d%d}}{{call d%d .}}{{end}}", i, i+1, i+1)
	}
	tree += "{{define d15}}x{{flush}}{{end}}"
	bushes, definitions := "", ""
	for i := range api.MaxDefines {
		bushes += fmt.Sprintf("{{call d%d .m}}", (i*37+5)%api.MaxDefines)
		definitions += fmt.Sprintf("{{define d%d}}%d{{.x}}{{end}}", i, i)
	}
	nested := strings.Repeat("{{range .b}}{{if .a}}", api.MaxNest/2) + "{{.x}}" + strings.Repeat("{{else}}-{{end}}+{{end}}", api.MaxNest/2)
	deepest := object{"a": true, "x": "end"}
	for range api.MaxNest/2 - 2 { // lists of maps: the nesting of values has its limit, too
		deepest = object{"a": true, "b": list{deepest, object{"a": false}}, "x": 5}
	}
	data := worlds()[0]
	data["many"], data["long"], data["deepest"] = many(150), strings.Repeat("<", 400), deepest
	for src, want := range map[string]api.Errno{
		strings.Repeat("{{.x}}", api.MaxNodes):           api.OK,
		strings.Repeat("x{{flush}}", api.MaxNodes/2):     api.OK,
		strings.Repeat("x", api.MaxTemplate):             api.OK,
		strings.Repeat("{{if .a}}{{end}}", api.MaxNodes): api.OK,
		tree:                   api.ErrLimit,
		tree + "y" + tree[:11]: api.ErrLimit,
		bushes + definitions:   api.OK,
		definitions + bushes:   api.OK,
		nested:                 api.OK,
		"{{call f .deepest}}{{define f}}" + strings.Repeat("{{range .b}}{{if .a}}", 13) + "{{.x}}" + strings.Repeat("{{end}}{{end}}", 13) + "{{end}}": api.OK,
		"{{call f .many}}{{define f}}{{range .}}{{.}}{{end}}{{end}}":                                                                                  api.OK,
		"{{range .many}}{{call f .}}{{end}}" + "{{define f}}" + strings.Repeat("{{.}}", 130) + "{{end}}":                                              api.OK,
		"{{range .many}}{{call f .}}{{end}}" + "{{define f}}" + strings.Repeat("{{.}}", 140) + "{{end}}":                                              api.ErrLimit,
		"{{range .many}}" + strings.Repeat("x", 2000) + "{{end}}":                                                                                     api.ErrLimit,
		strings.Repeat("{{.long}}", 200): api.ErrLimit,
		strings.Repeat("{{.long}}", 160): api.OK,
		"{{call f .many}}{{define f}}" + strings.Repeat("{{range .}}{{.}}{{end}}{{flush}}", 65) + "{{end}}": api.OK,
		"{{call f .many}}{{define f}}" + strings.Repeat("{{range .}}{{.}}{{end}}{{flush}}", 67) + "{{end}}": api.ErrLimit,
	} {
		if err := isAs(t, src, compiled(t, src), data); err != want {
			t.Errorf("%.100q: %v, want %v", src, err, want)
		}
	}
}
