package printer_test

import (
	"math"
	"strings"
	"testing"

	"tmplpipe/api"
	"tmplpipe/printer"
)

// comparesAs checks Equal for two templates, in both orders, and for each of them with itself.
func comparesAs(t *testing.T, want bool, a, b []api.Node) {
	t.Helper()
	if x, y := printer.Equal(a, b), printer.Equal(b, a); x != want || y != want {
		t.Fatalf("Equal = %t, in the other order %t; want %t for %s and %s", x, y, want, shown(a), shown(b))
	}
	if !printer.Equal(a, a) || !printer.Equal(b, b) {
		t.Fatalf("%s or %s is not equal to itself", shown(a), shown(b))
	}
}

// pairs returns pairs of sources of one node each that differ in one field of the node, by the name of this field.
func pairs() map[string][][2]string {
	return map[string][][2]string{
		"Kind": {
			{"{{if .a}}{{end}}", "{{range .a}}{{end}}"}, {"{{if .a}}x{{end}}", "{{range .a}}x{{end}}"}, {"{{.a}}", "{{if .a}}{{end}}"}, {"{{.}}", "{{range .}}{{end}}"},
			{"{{call f}}", "f"}, {"{{.a.b}}", "{{if .a.b}}{{end}}"},
		},
		"S":       {{"a", "b"}, {"a", "A"}, {"a", "aa"}, {"a", "a "}, {" ", "\n"}, {"{{call f}}", "{{call g}}"}, {"{{call f .a}}", "{{call g .a}}"}, {"{{call f}}", "{{call f_}}"}},
		"Path":    {{"{{.}}", "{{.a}}"}, {"{{.a}}", "{{.b}}"}, {"{{.a}}", "{{.a.a}}"}, {"{{if .}}{{end}}", "{{if .a}}{{end}}"}, {"{{if .a}}x{{else}}y{{end}}", "{{if .b}}x{{else}}y{{end}}"}, {"{{range .a}}x{{end}}", "{{range .a.b}}x{{end}}"}, {"{{call f .}}", "{{call f .a}}"}, {"{{call f .a}}", "{{call f .b}}"}},
		"HasPath": {{"{{call f}}", "{{call f .}}"}, {"{{call if}}", "{{call if .}}"}},
		"HasElse": {{"{{if .a}}{{end}}", "{{if .a}}{{else}}{{end}}"}, {"{{if .a}}x{{end}}", "{{if .a}}x{{else}}{{end}}"}, {"{{if .a}}{{if .b}}{{end}}{{end}}", "{{if .a}}{{if .b}}{{end}}{{else}}{{end}}"}},
		"Body": {
			{"{{if .a}}{{end}}", "{{if .a}}x{{end}}"}, {"{{if .a}}x{{end}}", "{{if .a}}y{{end}}"}, {"{{if .a}}{{else}}y{{end}}", "{{if .a}}x{{else}}y{{end}}"}, {"{{range .a}}{{end}}", "{{range .a}}{{.}}{{end}}"},
			{"{{range .a}}x{{.}}{{end}}", "{{range .a}}{{.}}x{{end}}"}, {"{{range .a}}x{{.}}{{end}}", "{{range .a}}x{{.}}x{{end}}"}, {"{{range .a}}{{range .}}{{end}}{{.}}{{end}}", "{{range .a}}{{range .}}{{.}}{{end}}{{end}}"},
			{"{{if .a}}{{if .b}}x{{end}}{{end}}", "{{if .a}}{{if .b}}{{end}}x{{end}}"}, {"{{if .a}}{{if .b}}{{end}}{{end}}", "{{if .a}}{{if .b}}{{else}}{{end}}{{end}}"},
		},
		"Else": {
			{"{{if .a}}{{else}}{{end}}", "{{if .a}}{{else}}x{{end}}"}, {"{{if .a}}x{{else}}y{{end}}", "{{if .a}}x{{else}}z{{end}}"}, {"{{if .a}}x{{else}}y{{end}}", "{{if .a}}x{{else}}{{end}}"},
			{"{{if .a}}{{else}}x{{.}}{{end}}", "{{if .a}}{{else}}{{.}}x{{end}}"}, {"{{if .a}}{{else}}{{if .b}}x{{end}}{{end}}", "{{if .a}}{{else}}{{if .b}}{{end}}x{{end}}"},
			{"{{if .a}}{{else}}{{if .b}}{{end}}{{end}}", "{{if .a}}{{else}}{{if .b}}{{else}}{{end}}{{end}}"}, {"{{if .a}}{{else}}{{if .b}}x{{else}}{{end}}{{end}}", "{{if .a}}{{else}}{{if .b}}{{else}}x{{end}}{{end}}"},
		},
	}
}

// surroundings returns sources in which a node can be in the place of the underscore: the first, a middle and the last one
// of the list, in Body, in Else and further down.
func surroundings() []string {
	all := []string{"_"}
	for _, list := range []string{"_", "_{{.}}{{.}}", "{{.}}_{{.}}", "{{.}}{{.}}_"} {
		all = append(all, list, "{{define d}}"+list+"{{end}}")
		for _, block := range []string{"{{if .}}_{{end}}", "{{if .}}_{{else}}{{.}}{{end}}", "{{if .}}{{else}}_{{end}}", "{{if .}}{{.}}{{else}}_{{end}}", "{{range .}}_{{end}}"} {
			inner := strings.ReplaceAll(block, "_", list)
			all = append(all, inner, "{{call f}}"+inner+"{{flush}}", "{{range .}}{{.}}"+inner+"{{end}}", "{{if .}}{{else}}"+inner+"{{.}}{{end}}", "{{define d}}{{if .}}"+inner+"{{end}}{{end}}")
		}
	}
	deepest := api.MaxNest - 4 // so that there is room for what pairs returns
	return append(all,
		strings.Repeat("{{range .}}", deepest)+"_"+strings.Repeat("{{end}}", deepest),
		strings.Repeat("{{if .}}", deepest)+"_"+strings.Repeat("{{else}}{{end}}", deepest),
		strings.Repeat("{{if .}}{{else}}", deepest)+"_"+strings.Repeat("{{end}}", deepest))
}

// TestEqualOfEachField has templates that differ in one field of one node.
func TestEqualOfEachField(t *testing.T) { // P13.2
	for _, around := range surroundings() {
		for field, list := range pairs() {
			for _, pair := range list {
				a, b := strings.Replace(around, "_", pair[0], 1), strings.Replace(around, "_", pair[1], 1)
				first, second := parsed(t, a), parsed(t, b)
				if printer.Equal(first, second) || printer.Equal(second, first) {
					t.Fatalf("%q and %q are equal; they differ in %s", a, b, field)
				}
				comparesAs(t, true, first, parsed(t, a))
				comparesAs(t, true, second, parsed(t, b))
			}
		}
	}
}

// TestEqualOfDefinitions has what can differ in definitions, which are at the top level only.
func TestEqualOfDefinitions(t *testing.T) { // P13.2
	sources := []string{
		"{{define f}}{{end}}", "{{define g}}{{end}}", "{{define f}}x{{end}}", "{{define f}}{{.}}{{end}}", "{{define f}}{{if .}}{{end}}{{end}}", "{{define f}}{{if .}}{{else}}{{end}}{{end}}",
		"f", "{{call f}}", "{{call f .}}", "{{call g}}",
	}
	for i, a := range sources {
		for j, b := range sources {
			for _, around := range []string{"_", "_{{.}}{{.}}", "{{.}}_{{.}}", "{{.}}{{.}}_"} {
				comparesAs(t, i == j, parsed(t, strings.Replace(around, "_", a, 1)), parsed(t, strings.Replace(around, "_", b, 1)))
			}
		}
	}
}

// TestEqualOfEmptyLists has lists without nodes, nil or not.
func TestEqualOfEmptyLists(t *testing.T) { // P13.2
	comparesAs(t, true, nil, nil)
	comparesAs(t, true, nil, []api.Node{})
	comparesAs(t, true, []api.Node{}, []api.Node{})
	for _, src := range []string{"a", "{{.}}", "{{if .}}{{end}}", "{{range .}}{{end}}", "{{define f}}{{end}}", "{{call f}}", "{{flush}}"} {
		comparesAs(t, false, nil, parsed(t, src))
		comparesAs(t, false, []api.Node{}, parsed(t, src))
	}
	// The same in Body and Else.
	l, m := parsed(t, "{{if .}}{{else}}{{end}}a"), parsed(t, "{{if .}}{{else}}{{end}}a")
	for _, empty := range [][]api.Node{nil, {}, make([]api.Node, 0, 5), parsed(t, "x")[:0]} {
		for _, other := range [][]api.Node{nil, {}, make([]api.Node, 0, 5), parsed(t, "y")[:0]} {
			for _, another := range [][]api.Node{nil, {}} {
				l[0].Body, l[0].Else, m[0].Body, m[0].Else, l[1].Body, m[1].Else = empty, other, other, another, empty, other
				comparesAs(t, true, l, m)
				comparesAs(t, true, l[:1], m[:1])
			}
		}
	}
}

// TestEqualOfOtherLengths has lists of which one is the beginning, the end or another part of the other.
func TestEqualOfOtherLengths(t *testing.T) { // P13.2
	for _, src := range []string{
		"a{{.b}}{{if .c}}d{{else}}e{{end}}{{range .f}}g{{end}}{{call h}}{{call i .j}}{{flush}}{{define k}}l{{end}}m",
		strings.Repeat("{{.a}}", 8), strings.Repeat("{{if .}}{{end}}", 5), strings.Repeat("{{if .}}{{else}}{{end}}", 5), strings.Repeat("{{range .}}x{{end}}", 5), strings.Repeat("{{flush}}", 5),
	} {
		l, again := parsed(t, src), parsed(t, src)
		for from := range len(l) + 1 {
			for to := from; to <= len(l); to++ {
				comparesAs(t, to-from == len(l), l[from:to], again)
			}
		}
		comparesAs(t, false, append(parsed(t, src), l...), l)
		comparesAs(t, false, append(parsed(t, src), l[0]), l)
		comparesAs(t, true, append(parsed(t, src), l...), append(parsed(t, src), again...))
	}
	// The same number of nodes in all, in lists of other lengths.
	lists := []string{"{{if .}}{{end}}{{if .}}{{end}}{{if .}}{{end}}", "{{if .}}{{if .}}{{end}}{{end}}{{if .}}{{end}}", "{{if .}}{{end}}{{if .}}{{if .}}{{end}}{{end}}", "{{if .}}{{if .}}{{end}}{{if .}}{{end}}{{end}}", "{{if .}}{{if .}}{{if .}}{{end}}{{end}}{{end}}"}
	for i, a := range lists {
		for j, b := range lists {
			comparesAs(t, i == j, parsed(t, a), parsed(t, b))
		}
	}
}

// TestEqualOfNodesWithTheSameSource has lists with the same canonical source that no single template has both.
func TestEqualOfNodesWithTheSameSource(t *testing.T) { // P13.2
	for _, c := range [][2][]string{
		{{"a", "b"}, {"ab"}}, {{"a", "bc"}, {"ab", "c"}}, {{"{", "{.a}}"}, {"{{.a}}"}}, {{"{", "{flush}}"}, {"{{flush}}"}}, {{"{", "{if .a}}x{", "{end}}"}, {"{{if .a}}x{{end}}"}},
		{{"{", "{if .a}}x", "{", "{end}}"}, {"{", "{if .a}}x{", "{end}}"}},
	} {
		a, b := parsed(t, c[0]...), parsed(t, c[1]...)
		if printer.Format(a) != printer.Format(b) {
			t.Fatal(c)
		}
		comparesAs(t, false, a, b)
		comparesAs(t, false, append(parsed(t, "x{{.}}"), a...), append(parsed(t, "x{{.}}"), b...))
	}
}

// TestEqualIgnoresOffsets has equal nodes with offsets of any size and order, at all depths.
func TestEqualIgnoresOffsets(t *testing.T) { // P13.2
	const src = "a{{.b}}{{if .c}}d{{call e}}{{else}}{{range .f}}g{{end}}{{end}}{{flush}}{{define h}}{{call i .}}{{end}}"
	l := parsed(t, src)
	for _, at := range []int{0, 1, -1, math.MaxInt, math.MinInt} {
		for _, step := range []int{0, 1, -1, math.MaxInt} {
			m := parsed(t, src)
			setOffsets(m, func() int { at += step; return at })
			comparesAs(t, true, l, m)
			m[2].Else[0].Body[0].S = "G"
			comparesAs(t, false, l, m)
		}
	}
	// One offset alone, and the offsets of the same template with more spaces or behind other nodes.
	count := 0
	setOffsets(l, func() int { count++; return 0 })
	for changed := range count {
		m, i := parsed(t, src), 0
		setOffsets(m, func() int {
			i++
			return map[bool]int{true: 1}[i == changed+1]
		})
		comparesAs(t, true, l, m)
	}
	comparesAs(t, true, l, parsed(t, strings.ReplaceAll(src, "{{", "{{   ")))
	comparesAs(t, true, l, parsed(t, "xyz{{if .}}{{end}}"+src)[2:])
}

// TestEqualOfLongLists has lists that differ in the last of many nodes only.
func TestEqualOfLongLists(t *testing.T) { // P13.2
	src := strings.Repeat("x{{.a}}{{if .b}}{{else}}y{{end}}", api.MaxNodes/4)
	l := parsed(t, src, src, src)
	comparesAs(t, true, l, parsed(t, src, src, src))
	comparesAs(t, false, l, parsed(t, src, src))
	comparesAs(t, false, l, parsed(t, src, src, src, "x"))
	last := src[:len(src)-len("y{{end}}")] + "z{{end}}"
	comparesAs(t, false, l, parsed(t, src, src, last))
	comparesAs(t, false, l, parsed(t, last, src, src))
}
