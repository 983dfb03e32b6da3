package machine_test

import (
	"slices"
	"strconv"
	"strings"
	"testing"

	"tmplpipe/api"
	"tmplpipe/compile"
	"tmplpipe/machine"
	"tmplpipe/model"
	"tmplpipe/parse"
)

// compiled returns the nodes and the code of a template that is accepted.
func compiled(t *testing.T, src string) ([]api.Node, []api.Ins) {
	t.Helper()
	l, at, err := parse.Parse(src)
	if err != api.OK {
		t.Fatalf("%.200q is not accepted: %d, %v", src, at, err)
	}
	code, at, err := compile.Code(l)
	if err != api.OK {
		t.Fatalf("%.200q is not accepted: %d, %v", src, at, err)
	}
	return l, code
}

// origins returns the offsets of the nodes from which the instructions of a template come.
func origins(l []api.Node) []int {
	var all func(l []api.Node) []int
	all = func(l []api.Node) []int {
		var ats []int
		for _, n := range l {
			if n.Kind == api.Define {
				continue
			}
			ats = append(append(ats, n.At), all(n.Body)...)
			if n.HasElse || n.Kind == api.Range {
				ats = append(ats, n.At)
			}
			ats = append(ats, all(n.Else)...)
		}
		return ats
	}
	ats := append(all(l), -1)
	for _, n := range l {
		if n.Kind == api.Define {
			ats = append(append(ats, all(n.Body)...), -1)
		}
	}
	return ats
}

// evaluated lets a machine run to its end, taking the output in pieces, and returns what it outputs. The flush marks are the
// lengths of the output at which it is flushing.
func evaluated(t *testing.T, m *machine.Machine, piece func() int) model.Result {
	t.Helper()
	var out []byte
	var r model.Result
	instructions := 0
	for m.Status() == machine.Running || m.Status() == machine.Flushing {
		if m.Ready() > 0 {
			n := piece()
			b := m.Take(n)
			if len(b) > max(n, 0) {
				t.Fatal(len(b), n)
			}
			out = append(out, b...)
		} else if m.Status() == machine.Flushing {
			r.Flush = append(r.Flush, len(out))
			m.Resume()
		} else {
			m.Step()
			if instructions++; instructions > 100*api.MaxSteps {
				t.Fatal("no end")
			}
		}
	}
	if (m.Status() == machine.Failed) != (m.Err() != api.OK) {
		t.Fatal(m.Status(), m.Err())
	}
	r.Out, r.Steps, r.Err = string(out), m.Steps(), m.Err()
	return r
}

// rendersAs compares a machine for a template with model.Render, and returns the error.
func rendersAs(t *testing.T, src string, l []api.Node, code []api.Ins, w world, piece func() int) api.Errno {
	t.Helper()
	p, q := w.provider(), w.provider()
	want := model.Render(l, q)
	m := machineFor(t, code, p)
	r := evaluated(t, m, piece)
	if r.Err != api.OK {
		r.At = origins(l)[m.Index()]
	} else if code[m.Index()].Op != api.OpHalt || m.Frames() > 0 {
		t.Errorf("the machine for %.200q has halted at %d with %d frames", src, m.Index(), m.Frames())
	}
	if r.Out != want.Out || !slices.Equal(r.Flush, want.Flush) || r.Steps != want.Steps || r.At != want.At || r.Err != want.Err {
		t.Fatalf("%.200q leads to %.500q, %v, %d, %d, %v, want %.500q, %v, %d, %d, %v", src, r.Out, r.Flush, r.Steps, r.At, r.Err, want.Out, want.Flush, want.Steps, want.At, want.Err)
	}
	if !slices.Equal(p.Pulls(), q.Pulls()) {
		t.Fatalf("%.200q pulls %v, want %v", src, p.Pulls(), q.Pulls())
	}
	return r.Err
}

func whole() int { return api.MaxOutput }

// worlds are data for the names a, b, m and x.
func worlds() []world {
	small := object{"a": true, "b": list{}, "m": object{"x": "'"}, "x": "/"}
	rich := object{"a": true, "b": list{object{"a": false, "b": list{small, small}, "m": small, "x": 7}, small}, "m": object{"a": false, "b": list{small}, "m": small, "x": "<="}, "x": -1}
	return []world{
		worldOf(rich),
		worldOf(rich, "x"),
		worldOf(object{"a": false, "b": list{small, object{"a": false, "b": list{true}}}, "m": object{"x": 5, "a": true}, "x": "&"}),
		worldOf(object{"a": false, "b": list{"s", 1, true}, "m": "\n", "x": true}),
		worldOf(object{"a": list{small}, "b": list{list{true, false}, list{}, list{list{}, list{true}, list{list{true}}}, list{small}}, "m": list{}}),
	}
}

// TestAllTemplates has all templates of up to some pieces of several sets.
func TestAllTemplates(t *testing.T) { // P19.5
	for _, set := range []struct {
		most   int
		pieces string
	}{
		{5, "y|{{.x}}|{{flush}}|{{if .a}}|{{else}}|{{range .b}}|{{end}}|{{define f}}|{{call f}}"},
		{6, "{{.x}}|{{if .a}}|{{else}}|{{range .b}}|{{end}}|{{define f}}|{{call f .m}}"},
		{6, "{{range .b}}|{{range .}}|{{if .}}|{{else}}|{{end}}|{{.}}|{{flush}}"},
		{6, "{{define f}}|{{define g}}{{.x}}|{{end}}|{{call f .}}|{{call g .m}}|y"},
		{5, "<a href='|<b title='|'>|{{.x}}|{{if .a}}|{{else}}|{{end}}|{{range .b}}"},
	} {
		count, all := map[api.Errno]int{}, worlds()
		var more func(src string, left int)
		more = func(src string, left int) {
			l, _, err := parse.Parse(src)
			if err == api.OK {
				if code, _, err := compile.Code(l); err == api.OK {
					for _, w := range all {
						count[rendersAs(t, src, l, code, w, whole)]++
					}
				}
			}
			if left == 0 || err != api.OK && err != api.ErrTruncated {
				return
			}
			for _, p := range strings.Split(set.pieces, "|") {
				more(src+p, left-1)
			}
		}
		more("", set.most)
		if count[api.OK] < 100 {
			t.Error(set.pieces, count)
		}
	}
}

// object returns an irregular map: t and u are mostly bools, s and n are text, k and l are lists, and m is a map.
func (n *numbers) object(depth int) object {
	o := object{"t": n.below(2) == 0, "u": n.below(3) > 0, "s": []string{"", "<b>", "'/ ", "\xff\n", strings.Repeat("&", n.below(40))}[n.below(5)], "n": n.below(2000) - 1000}
	if depth > 0 {
		o["m"] = n.object(depth - 1)
		o["k"] = n.list(depth-1, 5)
		o["l"] = n.list(depth-1, 3)
	}
	if n.below(50) == 0 {
		delete(o, []string{"t", "u", "s", "n", "k", "l", "m"}[n.below(7)])
	}
	if n.below(30) == 0 {
		o[[]string{"t", "u", "s", "n", "k", "l", "m"}[n.below(7)]] = []any{"", 0, true, list{}, object{}}[n.below(5)]
	}
	return o
}

// list returns an irregular list of mostly maps, with less than most items.
func (n *numbers) list(depth, most int) list {
	l := list{}
	for range n.below(most) {
		if n.below(40) == 0 {
			l = append(l, []any{"s", 5, true, list{"x"}}[n.below(4)])
		} else {
			l = append(l, n.object(depth))
		}
	}
	return l
}

// nodes returns the source of irregular nodes, with calls of the definitions d0, d1, and so on.
func (n *numbers) nodes(depth, definitions int) string {
	var b strings.Builder
	for range n.below(6) {
		kind := n.below(14)
		if depth == 0 {
			kind %= 8
		}
		print := []string{"{{.s}}", "{{.n}}", "{{.m.s}}", "{{.m.m.n}}"}[n.below(4)]
		switch kind {
		case 0, 1:
			b.WriteString([]string{"x", "<p>y</p>", "}}", "<!-- z -->"}[n.below(4)])
		case 2, 3:
			b.WriteString(print)
		case 4:
			b.WriteString([]string{"<a href='" + print + "'>", "<b title=\"{{if .t}}" + print + "{{else}}{{flush}}{{end}}\">", "<script>'" + print + "'</script>", "<style>'{{range .l}}" + print + "{{end}}'</style>"}[n.below(4)])
		case 5:
			b.WriteString("{{flush}}")
		case 6, 7:
			if definitions > 0 {
				b.WriteString("{{call d" + strconv.Itoa(n.below(definitions)) + []string{"", " .", " .m", " .m.m"}[n.below(4)] + "}}")
			}
		case 8, 9:
			b.WriteString("{{if ." + []string{"t", "u", "m.t"}[n.below(3)] + "}}" + n.nodes(depth-1, definitions) + "{{end}}")
		case 10, 11:
			b.WriteString("{{if ." + []string{"t", "u", "m.u"}[n.below(3)] + "}}" + n.nodes(depth-1, definitions) + "{{else}}" + n.nodes(depth-1, definitions) + "{{end}}")
		case 12, 13:
			b.WriteString("{{range ." + []string{"k", "l", "m.k"}[n.below(3)] + "}}" + n.nodes(depth-1, definitions) + "{{end}}")
		}
	}
	return b.String()
}

// template returns the source of an irregular template, with definitions among the main nodes.
func (n *numbers) template() string {
	var b strings.Builder
	definitions := n.below(5)
	for i := range definitions {
		b.WriteString(n.nodes(n.below(3), definitions))
		b.WriteString("{{define d" + strconv.Itoa(i) + "}}" + n.nodes(n.below(3), definitions) + "{{end}}")
	}
	b.WriteString(n.nodes(n.below(5), definitions))
	return b.String()
}

// TestIrregularTemplates has irregular templates with irregular data, whose output is taken in irregular pieces. Then some
// instructions of their code are exchanged for others.
func TestIrregularTemplates(t *testing.T) { // P19.2 to P19.5
	n := numbers(5)
	count, changed := map[api.Errno]int{}, map[api.Errno]int{}
	for range 2000 {
		src := n.template()
		l, code := compiled(t, src)
		w := worldOf(n.object(3), []string{"none", "s", "l", "m"}[max(0, n.below(30)-26)])
		for _, piece := range []func() int{whole, func() int { return 1 }, func() int { return n.below(9) - 1 }} {
			count[rendersAs(t, src, l, code, w, piece)]++
		}
		for range 3 {
			other := slices.Clone(code)
			for range 1 + n.below(2) {
				i := n.below(len(code))
				other[i] = n.instruction(i, len(code))
			}
			if _, err := compile.Check(other); err == api.OK {
				changed[paired(t, other, w).finish(t)]++
			}
		}
	}
	for _, err := range []api.Errno{api.OK, api.ErrMissing, api.ErrType, api.ErrDepth, api.ErrProvider} {
		if count[err] < 100 || changed[err] < 50 {
			t.Error(err, count, changed)
		}
	}
	if changed[api.ErrState] < 50 {
		t.Error(changed)
	}
}
