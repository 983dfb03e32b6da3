package printer_test

import (
	"math"
	"slices"
	"strings"
	"sync"
	"testing"

	"tmplpipe/api"
	"tmplpipe/printer"
)

// varied has nodes of all kinds at several depths.
const varied = "a{{.b}}{{if .c}}d{{call e}}{{if .}}f{{else}}g{{end}}{{else}}{{range .h}}i{{if .j}}{{.k}}{{else}}l{{end}}{{end}}m{{end}}{{flush}}{{define n}}o{{call p .q}}{{if .}}{{end}}{{end}}{{if .r}}{{else}}{{end}}"

// same reports whether two lists of nodes have equal fields, recursively, also equal offsets.
func same(a, b []api.Node) bool {
	return slices.EqualFunc(a, b, func(x, y api.Node) bool {
		return x.Kind == y.Kind && x.At == y.At && x.S == y.S && x.Path == y.Path && x.HasPath == y.HasPath && x.HasElse == y.HasElse &&
			same(x.Body, y.Body) && same(x.Else, y.Else)
	})
}

// strips checks the copy without offsets of the nodes of templates, for several offsets of these.
func strips(t *testing.T, sources ...string) {
	t.Helper()
	want := parsed(t, sources...)
	setOffsets(want, func() int { return 0 })
	l, before := parsed(t, sources...), parsed(t, sources...)
	for _, at := range []int{5, 0, -1, math.MinInt, math.MaxInt} {
		if got := printer.Strip(l); !same(got, want) || !printer.Equal(got, l) || !printer.Equal(l, got) {
			t.Fatalf("Strip(%s) = %s", shown(l), shown(got))
		}
		if !same(l, before) {
			t.Fatalf("Strip changed %s to %s", shown(before), shown(l))
		}
		setOffsets(l, func() int { return at })
		setOffsets(before, func() int { return at })
	}
}

func TestStripOfEmptyLists(t *testing.T) { // P13.2
	if got := printer.Strip(nil); len(got) > 0 {
		t.Fatal(shown(got))
	}
	if got := printer.Strip([]api.Node{}); len(got) > 0 {
		t.Fatal(shown(got))
	}
	strips(t)
	strips(t, "")
}

// TestStrip has nodes of each kind, in each place, and lists of nodes of several sources.
func TestStrip(t *testing.T) { // P13.2
	for _, src := range []string{
		"a", "}}{ ", "{{.}}", "{{.a.b}}", "{{call f}}", "{{call f .}}", "{{call f .a}}", "{{flush}}", "{{if .a}}{{end}}", "{{if .a}}{{else}}{{end}}", "{{if .a}}{{else}}x{{end}}", "{{if .a}}x{{end}}", "{{if .a}}x{{else}}{{end}}",
		"{{if .a}}x{{.b}}{{else}}y{{.c}}{{end}}", "{{range .}}{{end}}", "{{range .a}}x{{.b}}{{end}}", "{{define f}}{{end}}", "{{define f}}x{{.b}}{{end}}", varied,
	} {
		strips(t, src)
		strips(t, "{{.}}"+src+"z")
		strips(t, src, src, "x", src)
		if strings.Contains(src, "define") {
			continue
		}
		for _, around := range surroundings() {
			strips(t, strings.Replace(around, "_", src, 1))
		}
	}
	many := strings.Repeat("x{{.a}}{{if .b}}{{else}}y{{end}}", api.MaxNodes/4)
	strips(t, many, varied, many)
}

// spoil changes all nodes in lists, up to the capacities of these.
func spoil(l []api.Node) {
	all := l[:cap(l)]
	for i := range all {
		spoil(all[i].Body)
		spoil(all[i].Else)
		all[i] = api.Node{Kind: 9, At: -1, S: "spoiled", Path: "spoiled", HasElse: true}
	}
}

// TestStripIsACopy changes the argument of Strip behind the call, or what it returned.
func TestStripIsACopy(t *testing.T) { // P13.2, rule 4
	for _, src := range []string{"a", "{{if .a}}x{{end}}", "{{if .a}}{{else}}x{{end}}", "{{range .a}}x{{end}}", "{{define f}}x{{end}}", "{{if .a}}{{if .b}}x{{end}}{{else}}{{range .c}}{{if .d}}{{else}}x{{end}}{{end}}{{end}}", varied} {
		l, want := parsed(t, src), parsed(t, src)
		stripped := parsed(t, src)
		setOffsets(stripped, func() int { return 0 })
		first, second, third := printer.Strip(l), printer.Strip(l), printer.Strip(printer.Strip(l))
		spoil(first)
		if !same(l, want) || !same(second, stripped) {
			t.Fatalf("a change of a result changed %s or %s", shown(l), shown(second))
		}
		spoil(l)
		if !same(second, stripped) {
			t.Fatalf("a change of the argument changed %s", shown(second))
		}
		spoil(second)
		if !same(third, stripped) {
			t.Fatalf("a change of an argument or result changed %s", shown(third))
		}
	}
}

// TestStripChangesOneNode changes single fields of single nodes of a result, and of an argument.
func TestStripChangesOneNode(t *testing.T) { // P13.2
	forEach := func(l []api.Node, f func(n *api.Node)) {
		var visit func([]api.Node)
		visit = func(l []api.Node) {
			for i := range l {
				f(&l[i])
				visit(l[i].Body)
				visit(l[i].Else)
			}
		}
		visit(l)
	}
	count := 0
	forEach(parsed(t, varied), func(*api.Node) { count++ })
	changes := []func(n *api.Node){
		func(n *api.Node) { n.Kind++ }, func(n *api.Node) { n.At += 7 }, func(n *api.Node) { n.S += "s" }, func(n *api.Node) { n.Path += "p" }, func(n *api.Node) { n.HasPath = !n.HasPath },
		func(n *api.Node) { n.HasElse = !n.HasElse }, func(n *api.Node) { n.Body = append(n.Body, api.Node{S: "b"}) }, func(n *api.Node) { n.Else = append(n.Else, api.Node{S: "e"}) },
	}
	for changed := range count {
		for _, change := range changes {
			for _, ofResult := range []bool{false, true} {
				l, want := parsed(t, varied), parsed(t, varied)
				got, wanted := printer.Strip(l), printer.Strip(want)
				target, other, kept := l, got, wanted
				if ofResult {
					target, other, kept = got, l, want
				}
				i := 0
				forEach(target, func(n *api.Node) {
					if i == changed {
						change(n)
					}
					i++
				})
				if !same(other, kept) {
					t.Fatal(changed, ofResult, shown(other))
				}
			}
		}
	}
}

// TestStripOfNodesThatShareLists has the same node several times in the argument, but separate copies in the result.
func TestStripOfNodesThatShareLists(t *testing.T) { // P13.2, rule 7 of the language
	l := parsed(t, "{{if .a}}x{{range .b}}y{{end}}{{else}}z{{end}}")
	got := printer.Strip(append(slices.Clone(l), l...))
	spoil(got[0].Body)
	spoil(got[0].Else)
	want := printer.Strip(parsed(t, "{{if .a}}x{{range .b}}y{{end}}{{else}}z{{end}}"))
	if !same(got[1:], want) {
		t.Fatal(shown(got))
	}
}

// TestListsOfACopyAreIndependent appends to each list of a result, which must not affect another list.
func TestListsOfACopyAreIndependent(t *testing.T) { // P13.2, rule 7 of the language
	got, want := printer.Strip(parsed(t, varied)), printer.Strip(parsed(t, varied))
	var extend func(l []api.Node)
	extend = func(l []api.Node) {
		spoil(l[len(l):])
		for _, n := range l {
			extend(n.Body)
			extend(n.Else)
		}
	}
	extend(got)
	if !same(got, want) {
		t.Fatal(shown(got))
	}
}

// TestNothingBeyondTheLength has lists with more capacity than length, in Body and Else too.
func TestNothingBeyondTheLength(t *testing.T) { // rule 4
	build := func() []api.Node {
		l := parsed(t, "{{if .a}}xx{{.}}yy{{else}}{{.}}yy{{.}}{{end}}{{.b}}beyond{{range .c}}{{end}}")
		l[0].Body, l[0].Else = l[0].Body[:1], l[0].Else[:2]
		return l
	}
	l := build()
	got := printer.Strip(l[:2])
	if want := parsed(t, "{{if .a}}xx{{else}}{{.}}yy{{end}}{{.b}}"); !printer.Equal(got, want) || !printer.Equal(l[:2], want) || printer.Equal(l[:1], want) || len(got) != 2 || len(got[0].Body) != 1 || len(got[0].Else) != 2 {
		t.Fatal(shown(got))
	}
	if s := printer.Format(l[:2]); s != "{{if .a}}xx{{else}}{{.}}yy{{end}}{{.b}}" {
		t.Fatal(s)
	}
	spoil(got)
	whole, before := l[:cap(l)], build()
	before = before[:cap(before)]
	for _, list := range [][]api.Node{whole, before} {
		list[0].Body, list[0].Else = list[0].Body[:cap(list[0].Body)], list[0].Else[:cap(list[0].Else)]
	}
	if !same(whole, before) {
		t.Fatal(shown(whole))
	}
}

// TestArgumentsAreNotChanged has arguments that are the same before and after calls of all functions.
func TestArgumentsAreNotChanged(t *testing.T) { // rule 4
	a, b, want := parsed(t, varied), parsed(t, varied), parsed(t, varied)
	printer.Format(a)
	printer.Equal(a, b)
	printer.Equal(a, a)
	printer.Strip(b)
	if !same(a, want) || !same(b, want) {
		t.Fatal(shown(a), shown(b))
	}
}

// TestConcurrentCalls calls the functions for the same lists at the same time.
func TestConcurrentCalls(t *testing.T) { // rule 6
	l, m := parsed(t, varied), parsed(t, varied+"x")
	var all sync.WaitGroup
	for range 8 {
		all.Go(func() {
			for range 100 {
				stripped := printer.Strip(l)
				if printer.Format(l) != varied || printer.Equal(l, m) || !printer.Equal(stripped, l) || stripped[1].At != 0 || l[1].At != 1 {
					t.Error(shown(stripped))
					return
				}
			}
		})
	}
	all.Wait()
}
