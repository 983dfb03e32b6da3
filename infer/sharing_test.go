package infer_test

import (
	"slices"
	"sync"
	"testing"

	"tmplpipe/api"
	"tmplpipe/htmlctx"
	"tmplpipe/infer"
)

// varied has nodes of all kinds, and interpolations in each context that has an escaper.
const varied = `a{{.a}}<a href="{{.b}}{{if .c}}{{.}}" title="{{else}}"id="{{end}}{{.d}}{{range .e}}{{.f}}{{end}}">{{define f}}<style>'{{.g}}'</style>{{end}}<script>"{{.h}}{{flush}}"</script>{{if .i}}{{call f}}{{end}}`

// escapersOfVaried are the escapers of that template.
func escapersOfVaried() []int { return []int{text, url, url, attr, attr, css, js} }

// same reports whether two lists of nodes have equal fields, recursively, also equal offsets.
func same(a, b []api.Node) bool {
	return slices.EqualFunc(a, b, func(x, y api.Node) bool {
		return x.Kind == y.Kind && x.At == y.At && x.S == y.S && x.Path == y.Path && x.HasPath == y.HasPath && x.HasElse == y.HasElse &&
			same(x.Body, y.Body) && same(x.Else, y.Else)
	})
}

// copied returns a copy of nodes, which shares no memory with them.
func copied(l []api.Node) []api.Node {
	all := slices.Clone(l)
	for i := range all {
		all[i].Body, all[i].Else = copied(all[i].Body), copied(all[i].Else)
	}
	return all
}

// roomy returns a copy of nodes in which each list has more capacity than length, with faulty nodes behind its end.
func roomy(l []api.Node) []api.Node {
	room := make([]api.Node, 2*len(l)+9)
	for i := range room {
		room[i] = api.Node{Kind: api.Text, At: -i, S: "<"}
	}
	for i, n := range l {
		n.Body, n.Else = roomy(n.Body), roomy(n.Else)
		room[i] = n
	}
	return room[:len(l)]
}

// whole returns a copy of nodes with all that is behind them, up to the capacities of the lists.
func whole(l []api.Node) []api.Node {
	all := slices.Clone(l[:cap(l)])
	for i := range all {
		all[i].Body, all[i].Else = whole(all[i].Body), whole(all[i].Else)
	}
	return all
}

// TestArgumentsAreNotChanged has arguments that are the same before and after calls, up to the capacities of their lists.
func TestArgumentsAreNotChanged(t *testing.T) { // rule 4
	for _, src := range []string{"", "a", varied, "{{if .a}}<{{end}}", "{{range .a}}<a {{end}}", "<a {{.x}}", "{{define f}}<a {{call f}}{{end}}", "{{if .a}}<a {{else}}{{.x}}{{end}}" + varied} {
		l := roomy(parsed(t, src))
		before := whole(l)
		for i := range len(l) + 1 {
			for _, part := range [][]api.Node{l[:i], l[i:], l[:i:i]} {
				infer.Infer(part)
				for _, p := range places() {
					infer.After(p.state, part)
				}
			}
			if !same(whole(l), before) {
				t.Fatalf("%q was changed to %s", src, shown(l))
			}
		}
	}
}

// TestNothingBeyondTheLength has lists with more capacity than length, in Body and Else too.
func TestNothingBeyondTheLength(t *testing.T) { // rule 4
	l := roomy(parsed(t, varied))
	if escapers, at, err := infer.Infer(l); !slices.Equal(escapers, escapersOfVaried()) || at != 0 || err != api.OK {
		t.Fatal(escapers, at, err)
	}
	if s, at, err := infer.After(htmlctx.State{}, l); s != (htmlctx.State{}) || at != 0 || err != api.OK {
		t.Fatal(s, at, err)
	}
	l = roomy(parsed(t, "x{{if .a}}<b {{end}}"))
	if escapers, at, err := infer.Infer(l); len(escapers) != 0 || at != 1 || err != api.ErrJoin {
		t.Fatal(escapers, at, err)
	}
	if escapers, at, err := infer.Infer(roomy(parsed(t, "x<{{flush}}"))); len(escapers) != 0 || at != 2 || err != api.ErrJoin {
		t.Fatal(escapers, at, err)
	}
}

// TestResultsAreIndependent changes results, up to their capacities, and calls the function again.
func TestResultsAreIndependent(t *testing.T) { // rule 4
	l := parsed(t, varied)
	var earlier [][]int
	for range 4 {
		escapers, _, _ := infer.Infer(l)
		if !slices.Equal(escapers, escapersOfVaried()) {
			t.Fatal(escapers)
		}
		earlier = append(earlier, escapers)
	}
	for i := range earlier {
		escapers := earlier[i][:cap(earlier[i])]
		for j := range escapers {
			escapers[j] = -1
		}
		for _, other := range earlier[i+1:] {
			if !slices.Equal(other, escapersOfVaried()) {
				t.Fatal(other)
			}
		}
	}
	if escapers, _, _ := infer.Infer(l); !slices.Equal(escapers, escapersOfVaried()) {
		t.Fatal(escapers)
	}
}

// TestNothingIsKept changes an argument between the calls, and calls with faulty lists between those with others.
func TestNothingIsKept(t *testing.T) { // rules 4 and 7
	l := parsed(t, varied)
	escapers, _, _ := infer.Infer(l)
	other := parsed(t, `<a title="{{.}}">{{.}}`)
	clear(l)
	copy(l, other)
	if !slices.Equal(escapers, escapersOfVaried()) {
		t.Fatal(escapers)
	}
	for range 3 {
		if got, at, err := infer.Infer(l); !slices.Equal(got, []int{attr, text}) || at != 0 || err != api.OK {
			t.Fatal(got, at, err)
		}
		if got, at, err := infer.Infer(parsed(t, "{{.}}{{.}}<a {{.}}")); len(got) != 0 || at != 13 || err != api.ErrContext {
			t.Fatal(got, at, err)
		}
		if got, at, err := infer.Infer(parsed(t, "{{.}}{{.}}<a ")); len(got) != 0 || at != 10 || err != api.ErrJoin {
			t.Fatal(got, at, err)
		}
	}
}

// TestCallsAtATime calls the functions concurrently with the same argument.
func TestCallsAtATime(t *testing.T) { // rule 6
	l := parsed(t, varied)
	var group sync.WaitGroup
	for i := range 8 {
		group.Go(func() {
			for range 200 {
				if escapers, at, err := infer.Infer(l); !slices.Equal(escapers, escapersOfVaried()) || at != 0 || err != api.OK {
					t.Error(escapers, at, err)
				}
				if s, at, err := infer.After(htmlctx.State{}, l[:3]); s != (htmlctx.State{Ctx: htmlctx.URLDQ, Name: "a"}) || at != 0 || err != api.OK {
					t.Error(i, s, at, err)
				}
			}
		})
	}
	group.Wait()
}
