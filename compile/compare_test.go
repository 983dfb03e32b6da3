package compile_test

import (
	"slices"
	"strconv"
	"strings"
	"testing"

	"tmplpipe/api"
	"tmplpipe/compile"
	"tmplpipe/defines"
	"tmplpipe/infer"
	"tmplpipe/lex"
	"tmplpipe/parse"
)

// line is a line of a listing: an instruction, whose To is where the label target is, or a label.
type line struct {
	ins           api.Ins
	target, label string
}

// listing writes down the code of tokens line by line. The token of a Print gets the next of the escapers, since these are
// in the order of the source.
type listing struct {
	main, rest   []line
	inDefinition bool
	blocks       []lex.Token
	hasElse      []bool
	escapers     []int
}

func (w *listing) write(lines ...line) {
	if w.inDefinition {
		w.rest = append(w.rest, lines...)
	} else {
		w.main = append(w.main, lines...)
	}
}

// token writes down what a token leads to. The labels of a block have the offset of its directive.
func (w *listing) token(t lex.Token) {
	at := strconv.Itoa(t.At)
	switch t.Kind {
	case api.Text:
		w.write(line{ins: api.Ins{Op: api.OpText, S: t.S}})
	case api.Print:
		w.write(line{ins: api.Ins{Op: api.OpPrint, Path: t.Path, Esc: w.escapers[0]}})
		w.escapers = w.escapers[1:]
	case api.Flush:
		w.write(line{ins: api.Ins{Op: api.OpFlush}})
	case api.Call:
		w.write(line{ins: api.Ins{Op: api.OpCall, Path: t.Path, HasPath: t.HasPath}, target: "define " + t.S})
	case api.If:
		w.write(line{ins: api.Ins{Op: api.OpIf, Path: t.Path}, target: "else " + at})
	case api.Range:
		w.write(line{ins: api.Ins{Op: api.OpRange, Path: t.Path}, target: "end " + at}, line{label: "range " + at})
	case api.Define:
		w.inDefinition = true
		w.write(line{label: "define " + t.S})
	case lex.Else:
		at := strconv.Itoa(w.blocks[len(w.blocks)-1].At)
		w.write(line{ins: api.Ins{Op: api.OpJump}, target: "end " + at}, line{label: "else " + at})
		w.hasElse[len(w.blocks)-1] = true
	case lex.End:
		w.end()
	}
	if t.Kind == api.If || t.Kind == api.Range || t.Kind == api.Define {
		w.blocks, w.hasElse = append(w.blocks, t), append(w.hasElse, false)
	}
}

func (w *listing) end() {
	last := len(w.blocks) - 1
	block, at := w.blocks[last], strconv.Itoa(w.blocks[last].At)
	switch block.Kind {
	case api.If:
		if !w.hasElse[last] {
			w.write(line{label: "else " + at})
		}
	case api.Range:
		w.write(line{ins: api.Ins{Op: api.OpNext}, target: "range " + at})
	case api.Define:
		w.write(line{ins: api.Ins{Op: api.OpRet}})
		w.inDefinition = false
	}
	w.write(line{label: "end " + at})
	w.blocks, w.hasElse = w.blocks[:last], w.hasElse[:last]
}

// described is the code of an accepted template, as the chapter says it.
func described(tokens []lex.Token, escapers []int) []api.Ins {
	w := listing{escapers: escapers}
	for _, t := range tokens {
		w.token(t)
	}
	lines := slices.Concat(w.main, []line{{ins: api.Ins{Op: api.OpHalt}}}, w.rest)
	indices := map[string]int{}
	index := 0
	for _, l := range lines {
		if l.label != "" {
			indices[l.label] = index
		} else {
			index++
		}
	}
	var code []api.Ins
	for _, l := range lines {
		if l.label != "" {
			continue
		}
		if l.target != "" {
			l.ins.To = indices[l.target]
		}
		code = append(code, l.ins)
	}
	return code
}

// length is the number of instructions that the tokens of a template determine: one for each node other than a definition,
// one more for each Else and each Range, one for each definition, and one OpHalt.
func length(tokens []lex.Token) int {
	n := 1
	for _, t := range tokens {
		switch t.Kind {
		case lex.End:
		case api.Range:
			n += 2
		default:
			n++
		}
	}
	return n
}

// isAs checks the results of all functions for a template that can be parsed, and returns the error.
func isAs(t *testing.T, src string, l []api.Node) api.Errno {
	t.Helper()
	escapers, wantAt, want := infer.Infer(l)
	if at, err := defines.Check(l); err != api.OK {
		wantAt, want = at, err
	}
	code, at, err := compile.Code(l)
	if at != wantAt || err != want {
		t.Fatalf("Code of %q = %s, %d, %v, want %d, %v", src, shown(code), at, err, wantAt, want)
	}
	compiled, at, err := compile.Compile(src)
	if at != wantAt || err != want || !slices.Equal(compiled, code) {
		t.Fatalf("Compile(%q) = %s, %d, %v, want %s, %d, %v", src, shown(compiled), at, err, shown(code), wantAt, want)
	}
	if want != api.OK {
		if len(code) != 0 {
			t.Fatalf("Code of %q = %s, %d, %v", src, shown(code), at, err)
		}
		return want
	}
	tokens, _, _ := lex.Lex(src)
	if all := described(tokens, escapers); !slices.Equal(code, all) {
		t.Fatalf("Code of %q = %s, want %s", src, shown(code), shown(all))
	}
	if n, err := compile.Check(code); n != length(tokens) || err != api.OK || len(code) != n {
		t.Fatalf("Check of the code of %q = %d, %v, want %d", src, n, err, length(tokens))
	}
	return want
}

// sequences calls see with all sequences of up to a number of pieces that can be parsed.
func sequences(most int, pieces []string, see func(src string, l []api.Node)) {
	var more func(src string, left int)
	more = func(src string, left int) {
		l, _, err := parse.Parse(src)
		if err == api.OK {
			see(src, l)
		}
		if left == 0 || err != api.OK && err != api.ErrTruncated {
			return
		}
		for _, p := range pieces {
			more(src+p, left-1)
		}
	}
	more("", most)
}

// TestAllSequences has all templates of some pieces.
func TestAllSequences(t *testing.T) { // P17.1, P17.2, P17.4
	for _, set := range []struct {
		most   int
		pieces string
	}{
		{5, "a|{{.x}}|{{flush}}|{{if .a}}|{{else}}|{{range .b}}|{{end}}|{{define f}}|{{call f}}"},
		{6, "{{.x}}|{{if .a}}|{{else}}|{{range .b}}|{{end}}|{{define f}}|{{call f .}}"},
		{8, "{{if .a}}|{{else}}|{{end}}|x"},
		{8, "{{range .a}}|{{if .b}}|{{end}}|{{.}}"},
		{10, "{{if .a}}|{{else}}|{{range .b}}|{{end}}"},
		{5, "{{define f}}|{{define g}}{{.}}|{{end}}|{{call f}}|{{call g .a.b}}|{{call h}}|x"},
		{7, "{{define f}}|{{call g}}{{end}}{{define g}}|{{end}}|{{call f}}|<b title='{{.x}}'>"},
		{6, "<a title='|'>|{{.}}|{{if .a}}|{{else}}|{{end}}|{{define f}}|{{range .b}}"},
		{6, "<a {{call f}}|{{call f}}|{{define f}}|{{end}}|<b {{.x}}>|{{if .a}}<b|{{else}}"},
	} {
		count := map[api.Errno]int{}
		sequences(set.most, strings.Split(set.pieces, "|"), func(src string, l []api.Node) { count[isAs(t, src, l)]++ })
		if count[api.OK] < 30 {
			t.Fatal(set.pieces, count)
		}
	}
}

// TestDefinitionsBesideSequences has definitions before and behind all templates of some pieces, and calls within them.
func TestDefinitionsBesideSequences(t *testing.T) { // P17.1, P17.2, P17.4
	pieces := strings.Split("a|{{call f .}}|{{if .a}}|{{else}}|{{range .b}}|{{end}}|{{define g}}|{{call g}}", "|")
	for _, beside := range [][2]string{
		{"{{define f}}{{end}}", ""}, {"", "{{define f}}{{.z}}{{end}}"}, {"{{define f}}{{call f}}{{end}}{{define h}}b{{end}}", "{{define i}}{{call h .y}}{{end}}"},
	} {
		count := map[api.Errno]int{}
		sequences(6, pieces, func(src string, _ []api.Node) {
			src = beside[0] + src + beside[1]
			count[isAs(t, src, parsed(t, src))]++
		})
		if count[api.OK] < 1000 || count[api.ErrName] < 100 {
			t.Fatal(beside, count)
		}
	}
}

// numbers yields numbers in no order, the same at each start.
type numbers uint64

func (n *numbers) below(most int) int {
	*n = *n*6364136223846793005 + 1442695040888963407
	return int(uint64(*n) >> 33 % uint64(most))
}

// irregular returns the source of irregular nodes, with calls of the definitions d0, d1, and so on.
func (n *numbers) irregular(depth, definitions int) string {
	var b strings.Builder
	all := places()
	for range n.below(6) {
		kind := n.below(11)
		if depth == 0 {
			kind %= 6
		}
		p := all[n.below(len(all))]
		switch kind {
		case 0:
			b.WriteString([]string{"x", "<p>y</p>", "}}", "<!-- z -->"}[n.below(4)])
		case 1:
			b.WriteString(p.to + "{{.a}}" + p.back)
		case 2:
			b.WriteString(p.to + "{{if .b}}{{.c.d}}{{else}}{{range .e}}{{.}}{{flush}}{{end}}{{end}}" + p.back)
		case 3:
			b.WriteString("{{flush}}")
		case 4, 5:
			if definitions > 0 {
				b.WriteString("{{call d" + strconv.Itoa(n.below(definitions)) + []string{"", " .", " .f", " .f.g"}[n.below(4)] + "}}")
			}
		case 6, 7:
			b.WriteString("{{if .h}}" + n.irregular(depth-1, definitions) + "{{end}}")
		case 8:
			b.WriteString("{{if .i.j}}" + n.irregular(depth-1, definitions) + "{{else}}" + n.irregular(depth-1, definitions) + "{{end}}")
		case 9, 10:
			b.WriteString("{{range .k}}" + n.irregular(depth-1, definitions) + "{{end}}")
		}
	}
	return b.String()
}

// template returns the source of an irregular template, with definitions in any places and any order.
func (n *numbers) template() string {
	var b strings.Builder
	definitions := n.below(5)
	step := []int{1, 2, 3}[n.below(3)] // so that the names are in several orders
	for i := range definitions {
		name := i
		if definitions == 4 {
			name = (i * step) % 4
			if step == 2 {
				name = 3 - i
			}
		}
		b.WriteString(n.irregular(n.below(3), definitions))
		b.WriteString("{{define d" + strconv.Itoa(name) + "}}" + n.irregular(n.below(4), definitions) + "{{end}}")
	}
	b.WriteString(n.irregular(n.below(5), definitions))
	return b.String()
}

// TestIrregular has templates with many nodes, blocks, definitions and calls.
func TestIrregular(t *testing.T) { // P17.1, P17.2, P17.4
	var n numbers
	count := map[api.Errno]int{}
	for range 6000 {
		src := n.template()
		l, _, err := parse.Parse(src)
		if err == api.OK {
			err = isAs(t, src, l)
		}
		count[err]++
	}
	if count[api.OK] < 4500 {
		t.Fatal(count)
	}
}

// TestGreatTemplates has templates with as many nodes, instructions or blocks as there can be.
func TestGreatTemplates(t *testing.T) { // P17.1, P17.2, P17.4
	loops := strings.Repeat("{{range .a}}{{end}}", api.MaxTemplate/19)
	branches := strings.Repeat("{{if .a}}{{else}}{{end}}", api.MaxTemplate/24)
	for _, src := range []string{
		strings.Repeat("{{.}}", api.MaxNodes), strings.Repeat("x{{flush}}", api.MaxNodes/2), strings.Repeat("x", api.MaxTemplate), loops, branches,
		"{{define f}}" + loops[19*2:] + "{{end}}", "{{define f}}" + branches[24:] + "{{end}}{{call f}}",
		strings.Repeat("{{range .a}}x", api.MaxNest) + strings.Repeat("{{end}}y", api.MaxNest),
		strings.Repeat("{{if .a}}x", api.MaxNest) + "z" + strings.Repeat("{{else}}y{{end}}", api.MaxNest),
		strings.Repeat("{{if .a}}{{else}}{{.b}}", api.MaxNest) + "z" + strings.Repeat("{{end}}", api.MaxNest),
		"{{define f}}" + strings.Repeat("{{range .a}}{{call f}}{{if .b}}{{else}}", api.MaxNest/2-1) + strings.Repeat("{{end}}{{.}}{{end}}", api.MaxNest/2-1) + "{{end}}" + definitions(api.MaxDefines-1),
	} {
		if err := isAs(t, src, parsed(t, src)); err != api.OK {
			t.Errorf("%.100q: %v", src, err)
		}
	}
}
