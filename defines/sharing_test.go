package defines_test

import (
	"slices"
	"strings"
	"sync"
	"testing"

	"tmplpipe/api"
	"tmplpipe/defines"
)

// varied has definitions and main nodes of all kinds, with calls in each sort of place.
const varied = "a{{define f}}b{{call g}}{{if .c}}{{call h .}}{{else}}{{range .d}}{{call f}}{{end}}{{end}}{{end}}{{.e}}{{if .i}}{{call f}}{{else}}{{call h}}{{end}}{{define h}}{{end}}{{flush}}{{range .j}}{{call h}}{{end}}{{define g}}{{.}}{{end}}{{call g .k}}"

// copied returns a copy of nodes up to the capacities of the lists, which shares no memory with them.
func copied(l []api.Node) []api.Node {
	all := slices.Clone(l[:cap(l)])
	for i := range all {
		all[i].Body, all[i].Else = copied(all[i].Body), copied(all[i].Else)
	}
	return all
}

// roomy returns a copy of nodes in which each list has more capacity than length, with nodes behind its end.
func roomy(l []api.Node) []api.Node {
	room := make([]api.Node, 2*len(l)+9)
	for i := range room {
		room[i] = api.Node{Kind: api.Define, At: -i, S: "behind"}
	}
	for i, n := range l {
		n.Body, n.Else = roomy(n.Body), roomy(n.Else)
		room[i] = n
	}
	return room[:len(l)]
}

// spoil changes all nodes in lists, up to the capacities of these.
func spoil(l []api.Node) {
	all := l[:cap(l)]
	for i := range all {
		spoil(all[i].Body)
		spoil(all[i].Else)
		all[i] = api.Node{Kind: api.Call, At: -1, S: "spoiled", Path: "spoiled", HasElse: true}
	}
}

// callAll calls all functions.
func callAll(l []api.Node) {
	defines.Check(l)
	defines.Names(l)
	for _, name := range []string{"f", "g", "h", "x", ""} {
		defines.Find(l, name)
	}
	defines.Main(l)
	defines.Reachable(l)
}

// TestArgumentsAreNotChanged has arguments that are the same before and after calls of all functions, up to the
// capacities of their lists.
func TestArgumentsAreNotChanged(t *testing.T) { // rule 4
	for _, src := range []string{
		"", "a", "{{define f}}{{end}}", varied, varied + varied, "{{call x}}" + varied, varied + definitions(api.MaxDefines+3), "{{define f}}{{call g}}x{{end}}{{define f}}{{call h}}y{{end}}{{call f}}{{define g}}{{end}}{{define h}}{{end}}",
		strings.Repeat(varied, 5), "{{call f}}" + strings.Repeat("{{define f}}x{{call f}}y{{end}}", 9),
	} {
		l := roomy(parsed(t, src))
		before := copied(l)
		for length := range len(l) + 1 {
			callAll(l[:length])
			callAll(l[length:])
			callAll(l[:length:length])
			if !same(copied(l), before) {
				t.Fatalf("%.300q was changed to %s", src, shown(l...))
			}
		}
	}
}

// TestNothingBeyondTheLength has lists with more capacity than length, in Body and Else too.
func TestNothingBeyondTheLength(t *testing.T) { // rule 4
	l := parsed(t, "{{define f}}{{call g}}{{call beyond}}{{end}}{{if .}}{{call f}}{{call beyond}}{{else}}{{call h}}{{call beyond}}{{end}}{{define g}}{{end}}{{define h}}{{end}}{{call beyond}}{{define g}}{{end}}{{define beyond}}{{end}}")
	l[0].Body, l[1].Body, l[1].Else = l[0].Body[:1], l[1].Body[:1], l[1].Else[:1]
	l = l[:4]
	if at, err := defines.Check(l); at != 0 || err != api.OK {
		t.Fatal(at, err)
	}
	if got := defines.Names(l); !slices.Equal(got, []string{"f", "g", "h"}) {
		t.Fatal(got)
	}
	if n, ok := defines.Find(l, "beyond"); ok || !sameNode(n, api.Node{}) {
		t.Fatal(shown(n))
	}
	if got := defines.Main(l); !same(got, l[1:2]) {
		t.Fatal(shown(got...))
	}
	if got := defines.Reachable(l); !slices.Equal(got, []string{"f", "g", "h"}) {
		t.Fatal(got)
	}
}

// TestResultsAreIndependent changes results, up to their capacities, and then calls the functions again for the same
// argument or for an equal one.
func TestResultsAreIndependent(t *testing.T) { // rule 4
	l, want := parsed(t, varied), parsed(t, varied)
	for range 3 {
		names, reachable := defines.Names(l), defines.Reachable(l)
		if !slices.Equal(names, []string{"f", "h", "g"}) || !slices.Equal(reachable, []string{"f", "g", "h"}) {
			t.Fatal(names, reachable)
		}
		for _, list := range [][]string{names[:cap(names)], reachable[:cap(reachable)]} {
			for i := range list {
				list[i] = "spoiled"
			}
		}
		if !same(l, want) {
			t.Fatal(shown(l...))
		}
	}
	main, node := defines.Main(l), func() api.Node { n, _ := defines.Find(l, "f"); return n }()
	other := parsed(t, varied)
	otherMain := defines.Main(other)
	spoil(main)
	spoil(node.Body)
	if !same(other, want) || !same(otherMain, defines.Main(want)) || !slices.Equal(defines.Reachable(other), []string{"f", "g", "h"}) {
		t.Fatal(shown(other...))
	}
}

// TestMainIsAListOfItsOwn changes the nodes of a result, but not what is in them, and appends to it.
func TestMainIsAListOfItsOwn(t *testing.T) { // P14.1, rule 7 of the language
	for _, src := range []string{"a", "a{{.b}}{{call c}}{{if .}}x{{end}}{{flush}}", varied, "{{define f}}{{end}}a{{.b}}", "a{{.b}}{{define f}}{{end}}"} {
		l := parsed(t, src)
		before := copied(l)
		main := defines.Main(l[:len(l)-1])
		main = main[:cap(main)]
		for i := range main {
			main[i] = api.Node{Kind: 9, S: "spoiled"}
		}
		if !same(copied(l), before) {
			t.Fatalf("a change of a result changed %q to %s", src, shown(l...))
		}
	}
}

// TestNothingIsKept changes an argument between the calls.
func TestNothingIsKept(t *testing.T) { // rules 4 and 7
	l := parsed(t, varied)
	callAll(l)
	names, reachable, main := defines.Names(l), defines.Reachable(l), defines.Main(l)
	changed := parsed(t, "{{define x}}{{call y}}{{end}}b{{call x}}{{define y}}{{end}}{{define z}}{{end}}{{call a}}{{.}}c{{.}}")
	if n := copy(l, changed); n != len(l) || n != len(changed) {
		t.Fatal(len(l), len(changed))
	}
	if !slices.Equal(names, []string{"f", "h", "g"}) || !slices.Equal(reachable, []string{"f", "g", "h"}) || main[0].S != "a" || len(main) != 6 {
		t.Fatal(names, reachable, shown(main...))
	}
	if got := defines.Names(l); !slices.Equal(got, []string{"x", "y", "z"}) {
		t.Fatal(got)
	}
	if _, ok := defines.Find(l, "f"); ok {
		t.Fatal("f is found")
	}
	if at, err := defines.Check(l); at != changed[5].At || err != api.ErrName {
		t.Fatal(at, err)
	}
	if got := defines.Reachable(l); !slices.Equal(got, []string{"x", "y"}) {
		t.Fatal(got)
	}
}

// TestConcurrentCalls calls the functions for the same lists at the same time.
func TestConcurrentCalls(t *testing.T) { // rule 6
	l, faulty := parsed(t, varied), parsed(t, varied+"{{define f}}{{end}}")
	var all sync.WaitGroup
	for range 8 {
		all.Go(func() {
			for range 100 {
				at, err := defines.Check(faulty)
				n, ok := defines.Find(faulty, "f")
				if at != len(varied) || err != api.ErrDuplicate || !ok || n.At != 1 || len(defines.Main(l)) != 6 || len(defines.Names(faulty)) != 4 || !slices.Equal(defines.Reachable(l), []string{"f", "g", "h"}) {
					t.Error(at, err, shown(n), ok)
					return
				}
			}
		})
	}
	all.Wait()
}
