package defines_test

import (
	"slices"
	"strconv"
	"strings"
	"testing"

	"tmplpipe/api"
	"tmplpipe/defines"
	"tmplpipe/lex"
	"tmplpipe/parse"
)

// described has what the tokens of a template tell of its definitions and calls.
type described struct {
	names []string // of the definitions, in order
	ats   []int    // the offsets of the definitions
	calls []call   // in the order of the source, which is preorder
	main  []int    // the offsets of the main nodes
}

// call is a Call token in the definition with this index, or in the main nodes if this is -1.
type call struct {
	name   string
	at, in int
}

// describe returns the description of a template.
func describe(src string) described {
	var d described
	tokens, _, _ := lex.Lex(src)
	depth, in := 0, -1
	for _, t := range tokens {
		if depth == 0 && t.Kind != api.Define {
			d.main = append(d.main, t.At)
		}
		switch t.Kind {
		case api.If, api.Range:
			depth++
		case api.Define:
			depth, in = 1, len(d.names)
			d.names, d.ats = append(d.names, t.S), append(d.ats, t.At)
		case lex.End:
			depth--
			if depth == 0 {
				in = -1
			}
		case api.Call:
			d.calls = append(d.calls, call{t.S, t.At, in})
		}
	}
	return d
}

// check returns what the chapter says of the result of Check.
func (d described) check() (int, api.Errno) {
	for i, name := range d.names {
		if slices.Contains(d.names[:i], name) {
			return d.ats[i], api.ErrDuplicate
		}
		if i >= api.MaxDefines {
			return d.ats[i], api.ErrLimit
		}
	}
	for _, c := range d.calls {
		if !slices.Contains(d.names, c.name) {
			return c.at, api.ErrName
		}
	}
	return 0, api.OK
}

// reachable returns what the chapter says of the result of Reachable.
func (d described) reachable() []string {
	reached := make([]bool, len(d.names))
	for changed := true; changed; {
		changed = false
		for _, c := range d.calls {
			if c.in >= 0 && !reached[c.in] {
				continue
			}
			for i, name := range d.names {
				if name == c.name && !reached[i] {
					reached[i], changed = true, true
				}
			}
		}
	}
	var names []string
	for i, name := range d.names {
		if reached[i] {
			names = append(names, name)
		}
	}
	slices.Sort(names)
	return slices.Compact(names)
}

// compare compares the results for a source with what the chapter says, if the source is a template, which it reports.
func compare(t *testing.T, src string) bool {
	t.Helper()
	l, _, err := parse.Parse(src)
	if err != api.OK {
		return false
	}
	d := describe(src)
	if got := defines.Names(l); !slices.Equal(got, d.names) {
		t.Fatalf("Names of %.900q = %.900q", src, got)
	}
	var main []api.Node
	for _, n := range l {
		if slices.Contains(d.main, n.At) {
			main = append(main, n)
		}
	}
	if got := defines.Main(l); len(got) != len(d.main) || !same(got, main) {
		t.Fatalf("Main of %.900q = %s", src, shown(got...))
	}
	for _, name := range append([]string{"x", "f", ""}, d.names...) {
		n, ok := defines.Find(l, name)
		if i := slices.Index(d.names, name); ok != (i >= 0) || ok && (n.At != d.ats[i] || n.S != name || n.Kind != api.Define) || !ok && !sameNode(n, api.Node{}) {
			t.Fatalf("Find %q in %.900q = %s, %t", name, src, shown(n), ok)
		}
	}
	if got, want := defines.Reachable(l), d.reachable(); !slices.Equal(got, want) {
		t.Fatalf("Reachable of %.900q = %.900q; want %.900q", src, got, want)
	}
	wantAt, wantErr := d.check()
	at, err := defines.Check(l)
	if at != wantAt || err != wantErr {
		t.Fatalf("Check of %.900q = %d, %v; want %d, %v", src, at, err, wantAt, wantErr)
	}
	if err == api.OK {
		lawful(t, src, l, d)
	}
	return true
}

// lawful checks what the chapter says of the calls of a template that Check accepts.
func lawful(t *testing.T, src string, l []api.Node, d described) {
	t.Helper()
	names, reachable := defines.Names(l), defines.Reachable(l)
	for _, c := range d.calls {
		count := 0
		for _, name := range names {
			if name == c.name {
				count++
			}
		}
		if _, ok := defines.Find(l, c.name); !ok || count != 1 || c.in < 0 && !slices.Contains(reachable, c.name) {
			t.Fatalf("%d definitions have the called name %s in %.900q, of which are reachable %q", count, c.name, src, reachable)
		}
	}
}

// forEachSequence calls f for each sequence of n of the pieces.
func forEachSequence(n int, pieces []string, f func(string)) {
	if n == 0 {
		f("")
		return
	}
	forEachSequence(n-1, pieces, func(s string) {
		for _, piece := range pieces {
			f(s + piece)
		}
	})
}

// TestAllSequences compares all templates of up to six directives and texts.
func TestAllSequences(t *testing.T) { // P14.1 to P14.4
	t.Parallel()
	pieces := []string{"x", "{{call f}}", "{{call g .a}}", "{{define f}}", "{{define g}}", "{{if .}}", "{{else}}", "{{range .}}", "{{end}}"}
	templates := 0
	for n := range 7 {
		forEachSequence(n, pieces, func(src string) {
			if compare(t, src) {
				templates++
			}
		})
	}
	if templates < 5000 {
		t.Fatal(templates)
	}
}

// TestAllDefinitions compares all templates of up to five definitions, calls and texts.
func TestAllDefinitions(t *testing.T) { // P14.1 to P14.4
	t.Parallel()
	pieces := []string{
		"{{define f}}{{end}}", "{{define f}}{{call f}}{{end}}", "{{define f}}{{call g}}{{end}}", "{{define f}}{{if .}}{{call h}}{{else}}{{call g}}{{end}}{{end}}", "{{define g}}{{end}}", "{{define g}}x{{call h}}{{end}}",
		"{{define h}}{{range .}}{{call f}}{{end}}{{end}}", "{{call f}}", "{{call h .a}}", "{{if .}}{{call x}}{{else}}{{call g}}{{end}}", "y",
	}
	for n := range 6 {
		forEachSequence(n, pieces, func(src string) { compare(t, src) })
	}
}

// TestAllGraphs compares all templates in which the main nodes and three definitions call any of these and a name that
// has no definition.
func TestAllGraphs(t *testing.T) { // P14.2 to P14.4
	t.Parallel()
	names := []string{"c", "a", "b", "x"}
	var calls [16]string
	for set := range calls {
		for i, name := range names {
			if set>>i&1 == 1 {
				calls[set] += "{{call " + name + "}}"
			}
		}
	}
	for _, main := range calls {
		for _, a := range calls {
			for _, b := range calls {
				for _, c := range calls {
					if !compare(t, "{{define b}}"+b+"{{end}}"+main+"{{define a}}"+a+"{{end}}{{define c}}{{if .}}{{else}}"+c+"{{end}}{{end}}") {
						t.Fatal(a, b, c)
					}
				}
			}
		}
	}
}

// TestIrregular compares long templates with definitions in an irregular order, some of them faulty.
func TestIrregular(t *testing.T) { // P14.1 to P14.4
	t.Parallel()
	seed := uint32(1)
	next := func(n int) int {
		seed = seed*1664525 + 1013904223
		return int(seed>>16) % n
	}
	results := map[api.Errno]int{}
	for range 4000 {
		var names []string
		for i := range next(75) {
			names = append(names, "n"+strconv.Itoa(i))
		}
		if len(names) > 0 && next(4) == 0 {
			names[next(len(names))] = names[next(len(names))]
		}
		oneIn := 1 + next(3000) // of the calls has no definition
		nodes := func(most int) string {
			var b strings.Builder
			for range next(most) {
				name := "x" + strconv.Itoa(next(3))
				if len(names) > 0 && next(oneIn) > 0 {
					name = names[next(len(names))]
				}
				b.WriteString(strings.ReplaceAll([]string{"x", "{{.}}", "{{call _}}", "{{call _ .a}}", "{{if .}}{{call _}}{{else}}y{{end}}", "{{if .}}{{else}}{{call _}}{{end}}", "{{range .}}{{call _}}{{end}}"}[next(7)], "_", name))
			}
			return b.String()
		}
		src := nodes(4)
		for rest := slices.Clone(names); len(rest) > 0; {
			i := next(len(rest))
			src += "{{define " + rest[i] + "}}" + nodes(3) + "{{end}}" + nodes(2)
			rest = slices.Delete(rest, i, i+1)
		}
		if !compare(t, src) {
			t.Fatal(src)
		}
		l, _, _ := parse.Parse(src)
		_, err := defines.Check(l)
		results[err]++
	}
	for _, err := range []api.Errno{api.OK, api.ErrDuplicate, api.ErrLimit, api.ErrName} {
		if results[err] < 100 {
			t.Fatal(results)
		}
	}
}
