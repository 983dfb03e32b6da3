package infer_test

import (
	"math"
	"slices"
	"strings"
	"testing"

	"tmplpipe/api"
	"tmplpipe/htmlctx"
	"tmplpipe/infer"
	"tmplpipe/lex"
	"tmplpipe/parse"
)

// described is what the chapter says of an analysis.
type described struct {
	state    htmlctx.State
	escapers []int
	at       int
	err      api.Errno
}

// open is a block that has not ended: its token, the state before it, and the state at the end of its Body.
type open struct {
	token             lex.Token
	before, afterBody htmlctx.State
	hasElse           bool
}

// describe analyzes tokens one after the other, with a list of the open blocks. A block's own error is found at its end,
// which comes after all that is within it.
func describe(s htmlctx.State, tokens []lex.Token) described {
	var blocks []open
	var escapers []int
	fault := func(t lex.Token, err api.Errno) described { return described{at: t.At, err: err} }
	for _, t := range tokens {
		switch t.Kind {
		case api.Text:
			s = htmlctx.Run(s, t.S)
		case api.Print:
			escaper, ok := htmlctx.Escaper(s)
			if !ok {
				return fault(t, api.ErrContext)
			}
			escapers = append(escapers, escaper)
		case api.Call:
			if s != (htmlctx.State{}) {
				return fault(t, api.ErrContext)
			}
		case api.If, api.Range, api.Define:
			blocks = append(blocks, open{token: t, before: s})
			if t.Kind == api.Define {
				s = htmlctx.State{}
			}
		case lex.Else:
			b := &blocks[len(blocks)-1]
			b.afterBody, b.hasElse, s = s, true, b.before
		case lex.End:
			b := blocks[len(blocks)-1]
			blocks = blocks[:len(blocks)-1]
			want := b.before
			switch {
			case b.token.Kind == api.Define:
				want = htmlctx.State{}
			case b.hasElse:
				want = b.afterBody
			}
			if s != want {
				return fault(b.token, api.ErrJoin)
			}
			if b.token.Kind == api.Define {
				s = b.before
			}
		}
	}
	return described{state: s, escapers: escapers}
}

// tokens returns the tokens of nodes.
func tokens(l []api.Node) []lex.Token {
	var all []lex.Token
	for _, n := range l {
		all = append(all, lex.Token{Kind: n.Kind, At: n.At, S: n.S, Path: n.Path, HasPath: n.HasPath})
		if n.Kind != api.If && n.Kind != api.Range && n.Kind != api.Define {
			continue
		}
		all = append(all, tokens(n.Body)...)
		if n.HasElse {
			all = append(all, lex.Token{Kind: lex.Else, At: math.MinInt})
			all = append(all, tokens(n.Else)...)
		}
		all = append(all, lex.Token{Kind: lex.End, At: math.MinInt})
	}
	return all
}

// isAs checks the results of After and Infer for nodes whose tokens are given.
func isAs(t *testing.T, s htmlctx.State, l []api.Node, tokens []lex.Token) described {
	t.Helper()
	want := describe(s, tokens)
	if got, at, err := infer.After(s, l); got != want.state || at != want.at || err != want.err {
		t.Fatalf("After(%+v, %s) = %+v, %d, %v, want %+v", s, shown(l), got, at, err, want)
	}
	if s == (htmlctx.State{}) {
		wanted := want
		if want.state != (htmlctx.State{}) {
			wanted = described{at: l[len(l)-1].At, err: api.ErrJoin}
		}
		if got, at, err := infer.Infer(l); !slices.Equal(got, wanted.escapers) || at != wanted.at || err != wanted.err {
			t.Fatalf("Infer(%s) = %v, %d, %v, want %+v", shown(l), got, at, err, wanted)
		}
	}
	return want
}

// sequences calls see with all sequences of up to a number of pieces that can be parsed.
func sequences(most int, pieces []string, see func(src string, l []api.Node)) {
	l, _, err := parse.Parse("")
	var more func(src string, left int)
	more = func(src string, left int) {
		l, _, err = parse.Parse(src)
		if err == api.OK {
			see(src, l)
		}
		if left == 0 || err != api.OK && err != api.ErrTruncated {
			return
		}
		for _, p := range pieces {
			more(src+p, left-1)
		}
	}
	more("", most)
}

// TestAllSequences has all templates of some pieces, in several states.
func TestAllSequences(t *testing.T) { // P16.1, P16.2
	value, raw := htmlctx.Run(htmlctx.State{}, `<a x="`), htmlctx.Run(htmlctx.State{}, "<script>")
	for _, set := range []struct {
		most   int
		pieces string
	}{
		{6, "<a |>|{{.x}}|{{if .a}}|{{else}}|{{end}}"},
		{6, "<|{{call f}}|{{range .a}}|{{define f}}|{{end}}|x"},
		{6, "\"|{{.}}|{{if .a}}|{{else}}|{{end}}|{{range .b}}"},
		{4, "<a x=\"|\">|{{.}}|{{flush}}|{{call f}}|{{if .a}}|{{else}}|{{range .a}}|{{define f}}|{{end}}"},
		{5, "'|<|{{.x}}|{{if .a}}|{{else}}|{{range .b}}|{{define f}}|{{end}}"},
		{8, "'|{{if .a}}|{{else}}|{{end}}"},
		{8, "<|{{if .a}}{{if .b}}|{{else}}|{{end}}{{.x}}|{{end}}"},
	} {
		count := map[api.Errno]int{}
		sequences(set.most, strings.Split(set.pieces, "|"), func(src string, l []api.Node) {
			lexed, _, _ := lex.Lex(src)
			count[isAs(t, htmlctx.State{}, l, lexed).err]++
			count[isAs(t, value, l, lexed).err]++
			count[isAs(t, raw, l, lexed).err]++
		})
		if count[api.OK] < 50 || count[api.ErrJoin] < 50 || strings.Contains(set.pieces, "{{.") && count[api.ErrContext] < 50 {
			t.Fatal(set.pieces, count)
		}
	}
}

// numbers yields numbers in no order, the same at each start.
type numbers uint64

func (n *numbers) below(most int) int {
	*n = *n*6364136223846793005 + 1442695040888963407
	return int(uint64(*n) >> 33 % uint64(most))
}

// irregular returns the source of a template of irregular nodes. Most of its blocks lead back to where they begin.
func (n *numbers) irregular(depth int, top bool) string {
	var b strings.Builder
	all := places()
	for range n.below(5) {
		p := all[n.below(len(all))]
		kind := n.below(12)
		if depth == 0 {
			kind %= 6
		}
		switch kind {
		case 0, 1, 2:
			b.WriteString([]string{p.to + p.back, p.to + "{{.a}}" + p.back, p.to + p.back, "x", "{{.b}}", p.to + "{{flush}}" + p.back}[n.below(6)])
		case 3:
			b.WriteString([]string{"{{.x}}", "{{call f}}", "{{flush}}", "{{.}}"}[n.below(4)])
		case 4:
			if n.below(8) == 0 {
				b.WriteString(p.to)
			}
		case 5:
			b.WriteString(`<a href="{{.u}}" title='{{.t}}'>{{flush}}</a>`)
		case 6, 7:
			b.WriteString("{{if .a}}" + n.irregular(depth-1, false) + "{{end}}")
		case 8:
			b.WriteString("{{if .a}}" + n.irregular(depth-1, false) + "{{else}}" + n.irregular(depth-1, false) + "{{end}}")
		case 9:
			b.WriteString(p.to + "{{if .a}}" + p.back + n.irregular(depth-1, false) + "{{else}}" + p.back + n.irregular(depth-1, false) + "{{end}}")
		case 10:
			b.WriteString("{{range .a}}" + n.irregular(depth-1, false) + "{{end}}")
		case 11:
			if top {
				b.WriteString("{{define f}}" + n.irregular(depth-1, false) + "{{end}}")
			}
		}
	}
	return b.String()
}

// TestIrregular has templates with many nodes and blocks, and the states of all places.
func TestIrregular(t *testing.T) { // P16.1, P16.2
	var n numbers
	count := map[api.Errno]int{}
	all := places()
	for range 30000 {
		src := n.irregular(1+n.below(4), true)
		lexed, _, _ := lex.Lex(src)
		l := parsed(t, src)
		count[isAs(t, htmlctx.State{}, l, lexed).err]++
		isAs(t, all[n.below(len(all))].state, l, lexed)
	}
	if count[api.OK] < 3000 || count[api.ErrContext] < 1000 || count[api.ErrJoin] < 1000 {
		t.Fatal(count)
	}
}

// nodesOf appends all nodes of lists, with those in their blocks.
func nodesOf(all, l []api.Node) []api.Node {
	for _, n := range l {
		all = append(all, n)
		all = nodesOf(all, n.Body)
		all = nodesOf(all, n.Else)
	}
	return all
}

// TestMixedLists has nodes of several sources, also those of blocks, in any order and more than once, with any offsets.
func TestMixedLists(t *testing.T) { // P16.1, P16.2
	var n numbers
	var pool []api.Node
	for range 200 {
		pool = nodesOf(pool, parsed(t, n.irregular(3, true)))
	}
	for _, p := range places() {
		pool = nodesOf(pool, parsed(t, p.to+"{{flush}}"+p.back+"{{if .a}}"+p.to+"{{else}}"+p.to+"{{flush}}{{end}}"+p.back))
	}
	all, count := places(), map[api.Errno]int{}
	for i := range 40000 {
		var l []api.Node
		for range n.below(6) {
			l = append(l, pool[n.below(len(pool))])
		}
		if len(l) > 0 && n.below(3) == 0 {
			l = append(l, l[n.below(len(l))])
		}
		if i%4 == 0 {
			l = copied(l)
			changes := offsets()
			changeOffsets(l, changes[n.below(len(changes))])
		}
		count[isAs(t, htmlctx.State{}, l, tokens(l)).err]++
		isAs(t, all[n.below(len(all))].state, l, tokens(l))
	}
	if count[api.OK] < 5000 || count[api.ErrContext] < 1000 || count[api.ErrJoin] < 500 {
		t.Fatal(count)
	}
}

// TestTwoParts cuts lists at every place: the second part is analyzed in the state after the first.
func TestTwoParts(t *testing.T) { // P16.1
	var n numbers
	all := places()
	cut := 0
	for range 10000 {
		l := parsed(t, n.irregular(2, true)+n.irregular(2, true))
		p := all[n.below(len(all))]
		want, wantAt, wantErr := infer.After(p.state, l)
		for i := range len(l) + 1 {
			s, at, err := infer.After(p.state, l[:i])
			if err == api.OK {
				s, at, err = infer.After(s, l[i:])
			}
			if s != want || at != wantAt || err != wantErr {
				t.Fatalf("%q, %s cut at %d: %+v, %d, %v, want %+v, %d, %v", p.to, shown(l), i, s, at, err, want, wantAt, wantErr)
			}
			cut++
		}
	}
	if cut < 20000 {
		t.Fatal(cut)
	}
}
