package parse_test

import (
	"math"
	"slices"
	"sync"
	"testing"

	"tmplpipe/api"
	"tmplpipe/parse"
)

// measured checks what Count and Nest return for a list of nodes.
func measured(t *testing.T, count, nest int, l ...api.Node) {
	t.Helper()
	if c, n := parse.Count(l), parse.Nest(l); c != count || n != nest {
		t.Fatalf("Count, Nest = %d, %d of %s; want %d, %d", c, n, shown(l), count, nest)
	}
}

// nodeOf returns a node of any kind, with the nodes behind the first n in Else.
func nodeOf(kind, n int, nodes ...api.Node) api.Node {
	return api.Node{Kind: kind, Body: nodes[:n], Else: nodes[n:]}
}

func TestMeasuresOfSmallLists(t *testing.T) { // P12.2
	measured(t, 0, 0)
	if parse.Count([]api.Node{}) != 0 || parse.Nest([]api.Node{}) != 0 {
		t.Fatal("a list without nodes")
	}
	measured(t, 1, 0, text(0, "a"))
	measured(t, 4, 0, text(0, "a"), printed(1, "b"), call(2, "f"), flush(3))
	measured(t, 1, 1, ifNode(0, "a"))
	measured(t, 1, 1, rangeNode(0, "a"))
	measured(t, 1, 1, define(0, "a"))
	measured(t, 2, 1, ifNode(0, "a", text(0, "b")))
	measured(t, 2, 2, ifNode(0, "a", rangeNode(0, "b")))
	measured(t, 3, 1, ifElse(0, "a", 1, text(0, "b"), flush(0)))
	measured(t, 3, 2, ifElse(0, "a", 1, text(0, "b"), rangeNode(0, "c")))
	measured(t, 3, 2, ifElse(0, "a", 1, rangeNode(0, "b"), text(0, "c")))
	measured(t, 6, 3, text(0, "a"), rangeNode(0, "b", flush(0), ifNode(0, "c", ifNode(0, "d"))), ifNode(0, "e"))
	// The greatest depth in the first, a middle and the last node.
	deep := ifNode(0, "a", ifNode(0, "b", ifNode(0, "c")))
	measured(t, 5, 3, deep, ifNode(0, "d"), text(0, "e"))
	measured(t, 5, 3, ifNode(0, "d"), deep, text(0, "e"))
	measured(t, 5, 3, text(0, "e"), ifNode(0, "d"), deep)
}

// TestKindDecides has Body and Else in nodes of kinds that have none, or have no Else.
func TestKindDecides(t *testing.T) { // P12.2
	body, otherwise := ifNode(0, "a", text(0, "b")), rangeNode(0, "c", ifNode(0, "d"))
	both := []api.Node{body, otherwise, otherwise}
	for _, kind := range []int{api.Text, api.Print, api.Call, api.Flush, 7, 8, 9, -1, 100, math.MaxInt, math.MinInt} {
		measured(t, 1, 0, nodeOf(kind, 1, both...))
		measured(t, 1, 0, nodeOf(kind, 0, both...))
		measured(t, 1, 0, nodeOf(kind, 3, both...))
		n := nodeOf(kind, 1, both...)
		n.HasElse, n.HasPath = true, true
		measured(t, 1, 0, n)
		measured(t, 3, 1, ifNode(0, "z", n, n))
		measured(t, 3, 1, nodeOf(api.If, 1, n, n))
	}
	for _, kind := range []int{api.Range, api.Define} {
		for _, hasElse := range []bool{false, true} {
			n := nodeOf(kind, 1, both...)
			n.HasElse = hasElse
			measured(t, 3, 2, n)
			n = nodeOf(kind, 0, both...)
			n.HasElse = hasElse
			measured(t, 1, 1, n)
		}
	}
	// The Else of an If counts by the kind, too, whatever HasElse is.
	for _, hasElse := range []bool{false, true} {
		n := nodeOf(api.If, 1, both...)
		n.HasElse = hasElse
		measured(t, 7, 3, n)
		n = nodeOf(api.If, 0, both...)
		n.HasElse = hasElse
		measured(t, 7, 3, n)
		n = nodeOf(api.If, 2, otherwise, otherwise, body)
		n.HasElse = hasElse
		measured(t, 7, 3, n)
	}
}

// TestDefinesInBlocks has nodes in orders that no template has.
func TestDefinesInBlocks(t *testing.T) { // P12.2
	measured(t, 4, 4, ifNode(0, "a", define(0, "f", define(0, "g", rangeNode(0, "b")))))
	measured(t, 4, 3, ifElse(5, "a", 0, define(3, "f", text(9, "x"), define(-1, "f"))))
}

// TestDeepLists has lists of the greatest depth for which the functions are specified, nested in Body, in Else and in both.
func TestDeepLists(t *testing.T) { // P12.2
	wrap := func(variant, i int, l []api.Node) []api.Node {
		switch {
		case variant == 1 || variant == 2 && i%3 == 0:
			return []api.Node{nodeOf(api.If, 0, l...), flush(0)}
		case variant == 3: // with an Else that does not count
			return []api.Node{nodeOf([]int{api.Range, api.Define}[i%2], len(l), append(l, ifNode(0, "else"))...), flush(0)}
		}
		return []api.Node{nodeOf(api.If, len(l), append(l, flush(0))...)}
	}
	for depth := 1; depth <= 300; depth++ {
		for variant := range 4 {
			l := []api.Node{text(0, "a"), flush(0)}
			for i := range depth {
				l = wrap(variant, i, l)
			}
			measured(t, countOf(l), depth, l...)
		}
	}
}

// countOf counts nodes in the way that the chapter describes, without recursion.
func countOf(l []api.Node) int {
	count := 0
	for left := slices.Clone(l); len(left) > 0; count++ {
		n := left[len(left)-1]
		left = left[:len(left)-1]
		if n.Kind == api.If || n.Kind == api.Range || n.Kind == api.Define {
			left = append(left, n.Body...)
		}
		if n.Kind == api.If {
			left = append(left, n.Else...)
		}
	}
	return count
}

// TestIgnoredListsMayBeDeep has lists without end in fields that the functions ignore.
func TestIgnoredListsMayBeDeep(t *testing.T) { // P12.2, P1
	endless := make([]api.Node, 1)
	endless[0] = api.Node{Kind: api.If, Body: endless, Else: endless}
	measured(t, 3, 1, api.Node{Kind: api.Text, Body: endless, Else: endless}, api.Node{Kind: api.Call, Body: endless}, api.Node{Kind: api.Range, Else: endless})
}

// TestMeasuresChangeNothing has arguments that are equal before and after the calls.
func TestMeasuresChangeNothing(t *testing.T) { // rule 4
	build := func() []api.Node {
		return append([]api.Node{ifElse(0, "a", 1, text(0, "b"), rangeNode(0, "c")), nodeOf(api.Text, 1, text(0, "d"), text(0, "e"))}, text(0, "beyond"))[:2]
	}
	l := build()
	measured(t, 4, 2, l...)
	if !same(l[:3], build()[:3]) {
		t.Fatal(shown(l))
	}
}

const sharing = "a{{if .b}}c{{.d}}{{call f}}{{else}}{{flush}}g{{range .h}}i{{.j}}{{flush}}{{end}}{{end}}{{define k}}l{{.m}}{{.n}}{{end}}{{.o}}"

// spoil changes all nodes in lists, up to the capacities of these.
func spoil(l []api.Node) {
	all := l[:cap(l)]
	for i := range all {
		spoil(all[i].Body)
		spoil(all[i].Else)
		all[i] = api.Node{Kind: 9, At: -1, S: "spoiled", Path: "spoiled", HasElse: true}
	}
}

// TestResultsAreIndependent changes the nodes of a call, which must not affect another call.
func TestResultsAreIndependent(t *testing.T) { // P2, rule 4
	first, _, _ := parse.Parse(sharing)
	second, _, _ := parse.Parse(sharing)
	third, _, _ := parse.Parse(sharing)
	spoil(first)
	if !same(second, third) {
		t.Fatal(shown(second))
	}
	spoil(second)
	compare(t, sharing)
	if fourth, _, _ := parse.Parse(sharing); !same(third, fourth) {
		t.Fatal(shown(third), shown(fourth))
	}
}

// TestListsAreIndependent appends to each list of a result, which must not affect another list.
func TestListsAreIndependent(t *testing.T) { // rule 7 of the language
	got, _, _ := parse.Parse(sharing)
	want, _, _ := parse.Parse(sharing)
	extend := func(l []api.Node) { spoil(l[len(l):]) }
	extend(got)
	preorder(got, 0, func(n api.Node, _ int) {
		extend(n.Body)
		extend(n.Else)
	})
	if !same(got, want) {
		t.Fatal(shown(got))
	}
}

// TestConcurrentCalls parses templates, and sources that are none, at the same time.
func TestConcurrentCalls(t *testing.T) { // rule 6
	var all sync.WaitGroup
	for range 8 {
		all.Go(func() {
			for range 200 {
				for _, src := range []string{sharing, sharing + "{{end}}", sharing + "{{if .}}", sharing + "{{if}}"} {
					at, want := describedFault(src)
					if l, n, err := parse.Parse(src); n != at || err != want || (err == api.OK) != (parse.Count(l) == 16) {
						t.Error(src, shown(l), n, err)
						return
					}
				}
			}
		})
	}
	all.Wait()
}
