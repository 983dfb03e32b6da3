package defines_test

import (
	"fmt"
	"math"
	"slices"
	"strconv"
	"strings"
	"testing"

	"tmplpipe/api"
	"tmplpipe/defines"
	"tmplpipe/parse"
)

// many is a number of definitions for which a template has room.
const many = 2500

// parsed returns the nodes of a template.
func parsed(t *testing.T, src string) []api.Node {
	t.Helper()
	l, at, err := parse.Parse(src)
	if err != api.OK {
		t.Fatalf("Parse(%.300q) = %d, %v", src, at, err)
	}
	return l
}

// shown returns the beginning of the text of nodes.
func shown(l ...api.Node) string { return fmt.Sprintf("%.900s", fmt.Sprintf("%+v", l)) }

// same reports whether two lists of nodes have equal fields, recursively, also equal offsets.
func same(a, b []api.Node) bool {
	return slices.EqualFunc(a, b, func(x, y api.Node) bool {
		return x.Kind == y.Kind && x.At == y.At && x.S == y.S && x.Path == y.Path && x.HasPath == y.HasPath && x.HasElse == y.HasElse &&
			same(x.Body, y.Body) && same(x.Else, y.Else)
	})
}

// sameNode does the same for single nodes.
func sameNode(a, b api.Node) bool { return same([]api.Node{a}, []api.Node{b}) }

// changeOffsets replaces each offset of a template.
func changeOffsets(l []api.Node, change func(at int) int) {
	for i := range l {
		l[i].At = change(l[i].At)
		changeOffsets(l[i].Body, change)
		changeOffsets(l[i].Else, change)
	}
}

// offsets returns changes of offsets: to equal ones, descending ones, extreme ones, and ones in no order.
func offsets() []func(at int) int {
	return []func(at int) int{
		func(at int) int { return at },
		func(at int) int { return 0 },
		func(at int) int { return 7 },
		func(at int) int { return -at },
		func(at int) int { return math.MaxInt - at },
		func(at int) int { return math.MinInt + at },
		func(at int) int { return at*7919%101 - 50 },
	}
}

// definitions returns the source of empty definitions of n different names.
func definitions(n int) string {
	var b strings.Builder
	for i := range n {
		b.WriteString("{{define d" + strconv.Itoa(i) + "}}{{end}}")
	}
	return b.String()
}

// places returns sources with an underscore at each sort of place where a definition can be.
func places() []string {
	return []string{"_", "_x", "x_", "x_y", "{{.a}}_{{flush}}", "{{if .a}}x{{else}}y{{end}}_{{range .b}}z{{end}}", "{{define other}}{{.}}{{end}}_", "_{{define other}}x{{end}}", "x{{define other}}{{end}}y_z{{define another}}{{end}}"}
}

func TestNames(t *testing.T) { // P14.1
	for src, want := range map[string]string{
		"": "", "x": "", "{{call f}}": "", "{{if .f}}{{end}}{{range .g}}{{.h}}{{end}}": "", "{{if .}}{{call f}}{{else}}{{call g}}{{end}}f": "",
		"{{define f}}{{end}}": "f", "{{define f}}x{{call g}}{{end}}": "f", "{{ define  f }}{{ end }}": "f",
		"{{define f}}{{end}}{{define g}}{{end}}": "f g", "{{define g}}{{end}}{{define f}}{{end}}": "g f", "{{define b}}{{end}}{{define a}}{{end}}{{define c}}{{end}}": "b a c",
		"x{{define f}}{{end}}": "f", "{{define f}}{{end}}x": "f", "x{{define f}}{{end}}y{{define g}}{{end}}z": "f g", "{{define f}}{{end}}x{{define g}}{{end}}": "f g",
		"{{define f}}{{end}}{{define f}}{{end}}": "f f", "{{define f}}{{end}}{{define g}}{{end}}{{define f}}{{end}}": "f g f", "{{define f}}{{end}}{{define f}}{{end}}x{{define f}}{{end}}": "f f f",
		"{{define F}}{{end}}{{define f}}{{end}}{{define f_}}{{end}}{{define f1}}{{end}}": "F f f_ f1", "{{define end}}{{end}}{{define define}}{{end}}": "end define",
	} {
		l := parsed(t, src)
		for _, change := range offsets() {
			if got := defines.Names(l); !slices.Equal(got, strings.Fields(want)) {
				t.Fatalf("Names of %q = %q", src, got)
			}
			changeOffsets(l, change)
		}
	}
	got := defines.Names(parsed(t, definitions(many)))
	for i, name := range got {
		if name != "d"+strconv.Itoa(i) {
			t.Fatalf("name %d is %q", i, name)
		}
	}
	if len(got) != many {
		t.Fatal(len(got))
	}
}

func TestEmptyList(t *testing.T) { // P14.1 to P14.3
	for _, l := range [][]api.Node{nil, {}, parsed(t, ""), make([]api.Node, 0, 3), parsed(t, "{{call f}}{{define f}}{{end}}")[:0]} {
		if n, ok := defines.Find(l, "f"); ok || !sameNode(n, api.Node{}) {
			t.Fatal(shown(n))
		}
		if at, err := defines.Check(l); at != 0 || err != api.OK {
			t.Fatal(at, err)
		}
		if names, main, reachable := defines.Names(l), defines.Main(l), defines.Reachable(l); len(names) > 0 || len(main) > 0 || len(reachable) > 0 {
			t.Fatal(names, shown(main...), reachable)
		}
	}
}

func TestFind(t *testing.T) { // P14.1
	for _, place := range places() {
		for _, src := range []string{"{{define f}}{{end}}", "{{define f}}x{{end}}", "{{define f}}x{{.a}}{{if .b}}y{{call f}}{{else}}z{{end}}{{call g .c}}{{end}}", "{{define f}}{{range .}}{{.}}{{end}}{{end}}"} {
			for _, change := range offsets() {
				l, want := parsed(t, strings.Replace(place, "_", src, 1)), parsed(t, src)
				changeOffsets(l, change)
				changeOffsets(want, func(at int) int { return change(at + strings.Index(place, "_")) })
				if n, ok := defines.Find(l, "f"); !ok || !sameNode(n, want[0]) {
					t.Fatalf("Find f in %s = %s, %t", shown(l...), shown(n), ok)
				}
			}
		}
	}
}

// TestFindTheFirst has several definitions of a name, which have different bodies.
func TestFindTheFirst(t *testing.T) { // P14.1
	l := parsed(t, "a{{define f}}1{{end}}{{define g}}2{{end}}b{{define f}}3{{end}}{{define g}}4{{end}}{{define f}}5{{end}}{{define h}}6{{end}}")
	for _, change := range offsets() {
		changeOffsets(l, change)
		for name, want := range map[string]string{"f": "1", "g": "2", "h": "6"} {
			if n, ok := defines.Find(l, name); !ok || n.Kind != api.Define || n.S != name || len(n.Body) != 1 || n.Body[0].S != want {
				t.Fatalf("Find %s = %s, %t", name, shown(n), ok)
			}
		}
		for from, want := range []string{"1", "1", "3", "3", "3", "5", "5"} {
			if n, ok := defines.Find(l[from:], "f"); !ok || len(n.Body) != 1 || n.Body[0].S != want {
				t.Fatalf("Find f behind %d nodes = %s, %t", from, shown(n), ok)
			}
		}
		if n, ok := defines.Find(l[7:], "f"); ok || !sameNode(n, api.Node{}) {
			t.Fatal(shown(n), ok)
		}
	}
}

// TestFindNothing has names that no definition has, but other nodes, parts of names and other cases of letters.
func TestFindNothing(t *testing.T) { // P14.1
	for _, src := range []string{
		"", "f", "text", "{{.f}}", "{{call f}}", "{{call f .f}}", "{{if .f}}f{{call f}}{{else}}{{call f}}f{{end}}", "{{range .f}}{{call f}}f{{end}}", "{{flush}}", "{{define g}}{{end}}", "{{define g}}f{{call f}}{{.f}}{{end}}",
		"{{define F}}{{end}}", "{{define ff}}{{end}}", "{{define f_}}{{end}}", "{{define f1}}{{end}}", "{{define gf}}{{end}}", "f{{define g}}{{end}}{{call f}}{{define h}}{{end}}f",
	} {
		for _, name := range []string{"f", "", " ", ".", "f ", " f", ".f", "\x00", "f\x00", "define f", "{{define g}}", strings.Repeat("f", 70000)} {
			if n, ok := defines.Find(parsed(t, src), name); ok || !sameNode(n, api.Node{}) {
				t.Fatalf("Find %.20q in %q = %s, %t", name, src, shown(n), ok)
			}
		}
	}
	l := parsed(t, "x{{define f}}{{end}}{{define long"+strings.Repeat("g", api.MaxName-4)+"}}{{end}}")
	for _, name := range []string{"", "F", "ff", "f_", "x", "g", "long", "long" + strings.Repeat("g", api.MaxName-5), "long" + strings.Repeat("g", api.MaxName-3)} {
		if n, ok := defines.Find(l, name); ok || !sameNode(n, api.Node{}) {
			t.Fatalf("Find %q = %s, %t", name, shown(n), ok)
		}
	}
	if n, ok := defines.Find(l, "long"+strings.Repeat("g", api.MaxName-4)); !ok || !sameNode(n, l[2]) {
		t.Fatal(shown(n), ok)
	}
}

// TestFindEach finds each of many definitions.
func TestFindEach(t *testing.T) { // P14.1
	l := parsed(t, definitions(300))
	for i := range l {
		if n, ok := defines.Find(l, "d"+strconv.Itoa(i)); !ok || !sameNode(n, l[i]) {
			t.Fatalf("Find d%d = %s, %t", i, shown(n), ok)
		}
	}
}

// mainIs checks the main nodes of a template, for several offsets of its nodes.
func mainIs(t *testing.T, src string) {
	t.Helper()
	var want []api.Node
	for _, n := range parsed(t, src) {
		if !strings.HasPrefix(src[n.At:], "{{define ") {
			want = append(want, n)
		}
	}
	l := parsed(t, src)
	for _, change := range offsets() {
		changeOffsets(l, change)
		changeOffsets(want, change)
		if got := defines.Main(l); !same(got, want) {
			t.Fatalf("Main of %q = %s; want %s", src, shown(got...), shown(want...))
		}
	}
}

// TestMainNodes has definitions before, between and behind main nodes of all kinds.
func TestMainNodes(t *testing.T) { // P14.1
	for _, nodes := range [][]string{
		{}, {"x"}, {"x", "{{.a}}"}, {"{{call f}}", "{{call f .}}", "{{call g .a.b}}"}, {"{{flush}}", "{{flush}}"},
		{"{{if .a}}x{{else}}y{{call f}}{{end}}", "{{if .b}}{{end}}", "{{if .c}}{{else}}{{end}}"}, {"{{range .a}}x{{.}}{{end}}", "{{range .b}}{{end}}"},
		{"x", "{{.a}}", "{{if .b}}{{range .c}}y{{end}}{{else}}{{call f .}}{{end}}", "{{range .}}{{if .}}{{end}}{{end}}", "{{call g}}", "{{flush}}"},
		{"a", "{{.b}}", "a", "{{.b}}", "a", "{{.b}}"}, {"f", "{{call f}}", "{{.f}}"},
	} {
		mainIs(t, strings.Join(nodes, ""))
		for _, definition := range []string{"{{define f}}{{end}}", "{{define f}}x{{.a}}{{call f}}{{end}}", "{{define f}}{{if .}}y{{else}}z{{end}}{{end}}{{define g}}{{flush}}{{end}}"} {
			mainIs(t, definition+strings.Join(nodes, definition)+definition)
			for at := range len(nodes) + 1 {
				mainIs(t, strings.Join(slices.Insert(slices.Clone(nodes), at, definition), ""))
			}
		}
	}
	mainIs(t, strings.Repeat("x{{define f}}{{end}}{{.a}}", api.MaxNodes/3))
	mainIs(t, definitions(many))
	mainIs(t, definitions(many)+"x")
}

// TestMainNodesWrittenDown has the main nodes of a template field by field.
func TestMainNodesWrittenDown(t *testing.T) { // P14.1
	got := defines.Main(parsed(t, "{{define f}}1{{end}}a{{define g}}2{{end}}{{if .b.c}}3{{else}}4{{end}}{{call f}}{{call g .}}{{define h}}5{{end}}{{range .d}}6{{end}}{{.e}}{{flush}}{{define i}}{{end}}"))
	want := []api.Node{
		{Kind: api.Text, At: 20, S: "a"},
		{Kind: api.If, At: 41, Path: "b.c", HasPath: true, HasElse: true, Body: []api.Node{{Kind: api.Text, At: 52, S: "3"}}, Else: []api.Node{{Kind: api.Text, At: 61, S: "4"}}},
		{Kind: api.Call, At: 69, S: "f"},
		{Kind: api.Call, At: 79, S: "g", HasPath: true},
		{Kind: api.Range, At: 111, Path: "d", HasPath: true, Body: []api.Node{{Kind: api.Text, At: 123, S: "6"}}},
		{Kind: api.Print, At: 131, Path: "e", HasPath: true},
		{Kind: api.Flush, At: 137},
	}
	if !same(got, want) {
		t.Fatal(shown(got...))
	}
}
