package compile_test

import (
	"slices"
	"strings"
	"sync"
	"testing"

	"tmplpipe/api"
	"tmplpipe/compile"
)

// varied has nodes of all kinds, an interpolation with each escaper, and calls to and fro.
const varied = `a{{.a}}{{define f}}<style>'{{.b}}'</style>{{call g .x}}{{end}}<a href="{{.c}}{{if .d}}{{.}}" title="{{else}}"id="{{end}}{{.e}}{{range .f}}{{.g}}{{end}}">{{call g}}` +
	`{{define g}}{{if .h}}{{call f}}{{end}}{{end}}<script>"{{.i}}{{flush}}"</script>{{if .j}}{{call f .}}{{else}}b{{end}}`

// codeOfVaried is the code of that template.
func codeOfVaried() []api.Ins {
	return coded(strings.Join([]string{
		`text a|print .a html|text <a href="|print .c url|if .d 8|print . url|text " title="|jump 9|text "id="|print .e attr|range .f 13|print .g attr|next 11|text ">|call 29`,
		`text <script>"|print .i js|flush|text "</script>|if .j 22|call . 24|jump 23|text b|halt`,
		`text <style>'|print .b css|text '</style>|call .x 29|ret`,
		`if .h 31|call 24|ret`,
	}, "|"))
}

func TestAllTogether(t *testing.T) { // P17.1, P17.2, P17.4
	codeIs(t, varied, codeOfVaried())
	if err := isAs(t, varied, parsed(t, varied)); err != api.OK {
		t.Fatal(err)
	}
}

// same reports whether two lists of nodes have equal fields, recursively, also equal offsets.
func same(a, b []api.Node) bool {
	return slices.EqualFunc(a, b, func(x, y api.Node) bool {
		return x.Kind == y.Kind && x.At == y.At && x.S == y.S && x.Path == y.Path && x.HasPath == y.HasPath && x.HasElse == y.HasElse &&
			same(x.Body, y.Body) && same(x.Else, y.Else)
	})
}

// roomy returns a copy of nodes in which each list has more capacity than length, with faulty nodes behind its end.
func roomy(l []api.Node) []api.Node {
	room := make([]api.Node, 2*len(l)+9)
	for i := range room {
		room[i] = []api.Node{{Kind: api.Text, At: -i, S: "<"}, {Kind: api.Call, At: -i, S: "none"}, {Kind: api.Define, At: -i, S: "f"}}[i%3]
	}
	for i, n := range l {
		n.Body, n.Else = roomy(n.Body), roomy(n.Else)
		room[i] = n
	}
	return room[:len(l)]
}

// whole returns a copy of nodes with all that is behind them, up to the capacities of the lists.
func whole(l []api.Node) []api.Node {
	all := slices.Clone(l[:cap(l)])
	for i := range all {
		all[i].Body, all[i].Else = whole(all[i].Body), whole(all[i].Else)
	}
	return all
}

// TestNodesAreNotChanged has lists that are the same before and after calls, up to their capacities.
func TestNodesAreNotChanged(t *testing.T) { // rule 4
	for _, src := range []string{"", "a", varied, "{{if .a}}<{{end}}", "{{range .a}}<a {{end}}", "<a {{.x}}", "{{call f}}", "{{define f}}{{end}}{{define f}}{{call g}}{{end}}"} {
		l := roomy(parsed(t, src))
		before := whole(l)
		for i := range len(l) + 1 {
			for _, part := range [][]api.Node{l[:i], l[:i:i]} {
				compile.Code(part)
			}
		}
		if !same(whole(l), before) {
			t.Fatalf("%q was changed to %s", src, shown(l))
		}
	}
}

// TestNothingBeyondTheLength has lists and code with more capacity than length.
func TestNothingBeyondTheLength(t *testing.T) { // rule 4
	if code, at, err := compile.Code(roomy(parsed(t, varied))); !slices.Equal(code, codeOfVaried()) || at != 0 || err != api.OK {
		t.Fatal(shown(code), at, err)
	}
	if code, at, err := compile.Code(roomy(parsed(t, "x<{{flush}}"))); len(code) != 0 || at != 2 || err != api.ErrJoin {
		t.Fatal(shown(code), at, err)
	}
	if code, at, err := compile.Code(roomy(nil)); !slices.Equal(code, coded("halt")) || at != 0 || err != api.OK {
		t.Fatal(shown(code), at, err)
	}
	all := slices.Concat(coded("if .a 2|text b|halt"), []api.Ins{{Op: -1}, {Op: api.OpPrint, Esc: 5}})
	checked(t, all[:3], 3, api.OK)
	checked(t, all[:2], 0, api.ErrRange)
	checked(t, halts(mostCode + 9)[:mostCode], mostCode, api.OK)
	checked(t, halts(9)[:0], 0, api.ErrTruncated)
}

// TestCodeIsNotChanged has code that is the same before and after Check, up to its capacity.
func TestCodeIsNotChanged(t *testing.T) { // rule 4
	for _, f := range faults() {
		for index := range 5 {
			code := append(codeOfVaried(), make([]api.Ins, 9)...)
			code[index] = f.ins
			before := slices.Clone(code)
			for n := range len(code) + 1 {
				compile.Check(code[:n])
			}
			if !slices.Equal(code, before) {
				t.Fatal(shown(code))
			}
		}
	}
}

// TestResultsAreIndependent changes results, up to their capacities, and calls the functions again.
func TestResultsAreIndependent(t *testing.T) { // rule 4
	l := parsed(t, varied)
	var earlier [][]api.Ins
	for range 3 {
		code, _, _ := compile.Code(l)
		compiled, _, _ := compile.Compile(varied)
		earlier = append(earlier, code, compiled)
	}
	for i, code := range earlier {
		if !slices.Equal(code, codeOfVaried()) {
			t.Fatal(i, shown(code))
		}
		code = code[:cap(code)]
		for j := range code {
			code[j] = api.Ins{Op: -1, S: "changed"}
		}
	}
	codeIs(t, varied, codeOfVaried())
}

// TestNothingIsKept changes an argument between calls, and has calls for other templates in between.
func TestNothingIsKept(t *testing.T) { // rules 4 and 7
	l := parsed(t, varied)
	code, _, _ := compile.Code(l)
	clear(l[2].Body)
	clear(l)
	if !slices.Equal(code, codeOfVaried()) {
		t.Fatal(shown(code))
	}
	for range 3 {
		refused(t, "{{define f}}{{.a}}{{end}}{{.b}}<a {{.c}}", 34, api.ErrContext)
		refused(t, "{{.a}}{{define f}}{{end}}{{call g}}", 25, api.ErrName)
		codeIs(t, "{{define g}}{{end}}<b title='{{.}}'>{{call g}}", coded("text <b title='|print . attr|text '>|call 5|halt|ret"))
		if n, err := compile.Check(coded("flush|jump 1")); n != 1 || err != api.ErrRange {
			t.Fatal(n, err)
		}
		codeIs(t, varied, codeOfVaried())
	}
}

// TestCallsAtATime calls the functions concurrently with the same arguments.
func TestCallsAtATime(t *testing.T) { // rule 6
	l, want := parsed(t, varied), codeOfVaried()
	var group sync.WaitGroup
	for range 8 {
		group.Go(func() {
			for range 200 {
				if code, at, err := compile.Code(l); !slices.Equal(code, want) || at != 0 || err != api.OK {
					t.Error(shown(code), at, err)
				}
				if code, at, err := compile.Compile(varied); !slices.Equal(code, want) || at != 0 || err != api.OK {
					t.Error(shown(code), at, err)
				}
				if n, err := compile.Check(want); n != len(want) || err != api.OK {
					t.Error(n, err)
				}
			}
		})
	}
	group.Wait()
}
