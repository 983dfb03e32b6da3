package infer_test

import (
	"slices"
	"strings"
	"testing"

	"tmplpipe/api"
	"tmplpipe/escape"
	"tmplpipe/htmlctx"
	"tmplpipe/infer"
)

// printsOf returns the offsets of the Print nodes, in preorder.
func printsOf(l []api.Node) []int {
	var ats []int
	for _, n := range nodesOf(nil, l) {
		if n.Kind == api.Print {
			ats = append(ats, n.At)
		}
	}
	return ats
}

// chosen returns a copy of nodes in which choose replaces an If or a Range by the lists of nodes that it returns. A block
// for which it returns false is kept, with its own blocks replaced.
func chosen(l []api.Node, choose func(n api.Node) ([][]api.Node, bool)) []api.Node {
	var all []api.Node
	for _, n := range l {
		if n.Kind == api.If || n.Kind == api.Range {
			if parts, ok := choose(n); ok {
				for _, part := range parts {
					all = append(all, chosen(part, choose)...)
				}
				continue
			}
		}
		n.Body, n.Else = chosen(n.Body, choose), chosen(n.Else, choose)
		all = append(all, n)
	}
	return all
}

// ways returns what a block can be replaced by: either branch of an If, and a number of Bodies of a Range.
func ways(n api.Node) [][][]api.Node {
	if n.Kind == api.If {
		return [][][]api.Node{{n.Body}, {n.Else}}
	}
	return [][][]api.Node{{}, {n.Body}, {n.Body, n.Body}, {n.Body, n.Body, n.Body}}
}

// accepted calls see with templates that Infer accepts, and with the escapers of their Print nodes by offset.
func accepted(t *testing.T, see func(src string, l []api.Node, escapers map[int]int)) {
	t.Helper()
	var n numbers
	sources := []string{
		varied, "{{if .a}}<a {{else}}<A {{end}}>{{.b}}", "{{range .a}}{{if .b}}<a href='{{.}}'>{{else}}{{.}}{{range .c}}{{.}}{{end}}{{end}}{{end}}", `<script>x = {{if .a}}"{{else}}"y{{end}}{{range .b}}{{.}}{{end}}";</script>`,
		"<a {{if .a}}href='{{.b}}{{else}}src='{{range .c}}{{.d}}/{{end}}{{end}}' {{range .e}}alt='{{.}}' {{end}}>", "{{if .a}}{{if .b}}{{if .c}}<b x='{{else}}<b y='{{end}}{{else}}<b z='{{.}}{{end}}{{else}}<b w='{{end}}{{.d}}'>",
	}
	for len(sources) < 6000 {
		sources = append(sources, n.irregular(1+n.below(4), true))
	}
	seen := 0
	for _, src := range sources {
		l := parsed(t, src)
		inferred, _, err := infer.Infer(l)
		if err != api.OK || len(nodesOf(nil, l)) > 100 {
			continue
		}
		escapers := map[int]int{}
		for i, at := range printsOf(l) {
			escapers[at] = inferred[i]
		}
		see(src, l, escapers)
		seen++
	}
	if seen < 2000 {
		t.Fatal(seen)
	}
}

// staysAccepted checks that Infer returns for nodes of an accepted template the escapers that it returns for this one.
func staysAccepted(t *testing.T, src string, l []api.Node, escapers map[int]int) {
	t.Helper()
	var want []int
	for _, at := range printsOf(l) {
		want = append(want, escapers[at])
	}
	if got, at, err := infer.Infer(l); !slices.Equal(got, want) || at != 0 || err != api.OK {
		t.Fatalf("%s, made from %q: %v, %d, %v, want %v", shown(l), src, got, at, err, want)
	}
}

// TestOneBlockReplaced replaces a single block of an accepted template in each way.
func TestOneBlockReplaced(t *testing.T) { // P16.3
	accepted(t, func(src string, l []api.Node, escapers map[int]int) {
		for _, block := range nodesOf(nil, l) {
			if block.Kind != api.If && block.Kind != api.Range {
				continue
			}
			for _, way := range ways(block) {
				staysAccepted(t, src, chosen(l, func(n api.Node) ([][]api.Node, bool) { return way, n.At == block.At }), escapers)
			}
		}
	})
}

// TestBlocksReplaced replaces each block of an accepted template in some way, other ones at each time, or keeps it.
func TestBlocksReplaced(t *testing.T) { // P16.3
	var n numbers
	accepted(t, func(src string, l []api.Node, escapers map[int]int) {
		for range 5 {
			staysAccepted(t, src, chosen(l, func(block api.Node) ([][]api.Node, bool) {
				all := ways(block)
				return all[n.below(len(all))], n.below(3) > 0
			}), escapers)
		}
	})
}

// TestPartOfATemplate replaces the blocks of the first nodes of an accepted template, after which any state can be.
func TestPartOfATemplate(t *testing.T) { // P16.3
	var n numbers
	accepted(t, func(src string, l []api.Node, escapers map[int]int) {
		for i := range l {
			want, at, err := infer.After(htmlctx.State{}, l[:i])
			if at != 0 || err != api.OK {
				t.Fatalf("%q up to %d: %d, %v", src, i, at, err)
			}
			made := chosen(l[:i], func(block api.Node) ([][]api.Node, bool) {
				all := ways(block)
				return all[n.below(len(all))], n.below(4) > 0
			})
			if got, at, err := infer.After(htmlctx.State{}, made); got != want || at != 0 || err != api.OK {
				t.Fatalf("%s, made from %q: %+v, %d, %v, want %+v", shown(made), src, got, at, err, want)
			}
		}
	})
}

// TestValuesInserted writes documents of accepted templates, with values that would change the context if they were not
// escaped: at each interpolation the context is the inferred one, and the document ends in text.
func TestValuesInserted(t *testing.T) { // P16.3, P4
	var n numbers
	values := []string{"", "x", `">`, "'>", "<b ", "</script>", "</style>", `\`, `\"`, "\n", "<", "<!--", "-->", " onclick=", "\xff\xe2\x82", "&lt;", "{{.x}}", "\x00"}
	accepted(t, func(src string, l []api.Node, escapers map[int]int) {
		made := chosen(l, func(block api.Node) ([][]api.Node, bool) {
			all := ways(block)
			return all[n.below(len(all))], true
		})
		var document strings.Builder
		for _, node := range made {
			switch node.Kind {
			case api.Text:
				document.WriteString(node.S)
			case api.Print:
				if escaper, ok := htmlctx.Escaper(htmlctx.Run(htmlctx.State{}, document.String())); !ok || escaper != escapers[node.At] {
					t.Fatalf("%q at %d: %q", src, node.At, document.String())
				}
				escaped, _ := escape.Escape(escapers[node.At], values[n.below(len(values))])
				document.WriteString(escaped)
			}
		}
		if s := htmlctx.Run(htmlctx.State{}, document.String()); s != (htmlctx.State{}) {
			t.Fatalf("%q leads to %q, and that to %+v", src, document.String(), s)
		}
	})
}

// TestRejectedForAReason has templates that are rejected with ErrJoin: different ways through the block at which the
// analysis fails lead to different states.
func TestRejectedForAReason(t *testing.T) { // P16.3
	var n numbers
	rejected := 0
	for range 12000 {
		src := n.irregular(1+n.below(4), true)
		l := parsed(t, src)
		_, at, err := infer.After(htmlctx.State{}, l)
		if err != api.ErrJoin {
			continue
		}
		rejected++
		before, block := wayTo(&n, l, at)
		start := htmlctx.Run(htmlctx.State{}, before)
		body, other := htmlctx.Run(start, straight(&n, block.Body)), start
		switch block.Kind {
		case api.If:
			other = htmlctx.Run(start, straight(&n, block.Else))
		case api.Define:
			body, other = htmlctx.Run(htmlctx.State{}, straight(&n, block.Body)), htmlctx.State{}
		}
		if body == other {
			t.Fatalf("%q is rejected at %d, but both ways lead from %+v to %+v", src, at, start, body)
		}
	}
	if rejected < 300 {
		t.Fatal(rejected)
	}
}

// straight returns the text on some way through nodes.
func straight(n *numbers, l []api.Node) string {
	var b strings.Builder
	for _, node := range chosen(l, func(block api.Node) ([][]api.Node, bool) {
		all := ways(block)
		return all[n.below(len(all))], true
	}) {
		if node.Kind == api.Text {
			b.WriteString(node.S)
		}
	}
	return b.String()
}

// wayTo returns the text on some way to the block with an offset, and the block.
func wayTo(n *numbers, l []api.Node, at int) (string, api.Node) {
	for i, node := range l {
		before := straight(n, l[:i])
		if node.At == at {
			return before, node
		}
		if node.Kind == api.Define {
			before = ""
		}
		for _, part := range [][]api.Node{node.Body, node.Else} {
			if within, found := wayTo(n, part, at); found.Kind != api.Text {
				return before + within, found
			}
		}
	}
	return "", api.Node{}
}
