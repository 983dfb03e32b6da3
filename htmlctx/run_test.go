package htmlctx_test

import (
	"strings"
	"sync"
	"testing"

	"tmplpipe/htmlctx"
)

// signs stand for the contexts in the lines below, in the order of their numbers.
const signs = ".tnafbuVvLlRr-!/JDSCds"

// lines are documents, and below each the contexts after its bytes.
var lines = [][2]string{
	{`a b`,
		`...`},
	{`a<b>c</b>d`,
		`..n..../..`},
	{`<<<a>`,
		`...n.`},
	{`a < b <3 c</ d</<p>`,
		`.................n.`},
	{`<a href="x>y" title='"'>t`,
		`.ntaaaabLLLLttaaaaabvvt..`},
	{`<a href='x' HREF="`,
		`.ntaaaabllttaaaabL`},
	{`<p x y = z w=v/>u`,
		`.ntafafbbutabuu..`},
	{`<p/x/y=1 z>`,
		`.ntatabuta.`},
	{`<p =x==y>`,
		`.ntaabuu.`},
	{`<p a= >b`,
		`.ntabb..`},
	{`<p onx="a'b"o='c'>`,
		`.ntaaabRRRRtabvvt.`},
	{`<p style='a' srcdoc="b">`,
		`.ntaaaaabrrttaaaaaabRRt.`},
	{`<p "a'b=c>`,
		`.ntaaaabu.`},
	{`<!--->a-->b`,
		`...------..`},
	{`<!---->a`,
		`...---..`},
	{`<!----->a`,
		`...----..`},
	{`<!--a--b---c-->d`,
		`...-----------..`},
	{`<!>a<!->b<!x>c<!-x->d`,
		`...........!.....!!..`},
	{`<!doctype html>a`,
		`..!!!!!!!!!!!!..`},
	{`</a b='>'>c`,
		`../////....`},
	{`<script>x = 'y';</script>z`,
		`.nnnnnnJJJJJSSJJJJJJJJJ/..`},
	{`<SCRIPT a=b>"<b>"</Script x>'`,
		`.nnnnnntabuJDDDDJJJJJJJJ///..`},
	{`<style>p{a:"b\"c"}'d</style>e`,
		`.nnnnnCCCCCdddddCCssssssss/..`},
	{`<script/src="a">'\'</script>'`,
		`.nnnnnntaaabLLtJSSSSSSSSSS/..`},
	{"<style>'a\nb\"c\\\nd\"",
		`.nnnnnCssCC` + `dddddC`},
	{`<SCRIPTS>'<style x>'</style>`,
		`.nnnnnnn...nnnnntaCsssssss/.`},
}

// further are more documents, with the bytes 0 and 128 and more.
var further = []string{
	"", "<", "</", "<!", "<!-", "<!--\x00-\xff--x-->\x80<\x00</\xff<!\x00>", "\xff\xfe<a\xff\x80 \xff=\"\x00\"\xff='\xff'>\xff", "\u00e4<a \u20ac='\U0001f600'>",
	"<" + "abcdefghijklmnopqrstuvwxyz" + " " + "ABCDEFGHIJKLMNOPQRSTUVWXYZ" + " = x>", "<sCript>'\\</scrip</SCRIPT\n>", "<script>\"\\\\\"'\\'\n</s</sc</scr\"</script>", "<style>\"</sty\\le</style", "<a href src=\"\"action='/x'formaction = \"y\" style=''onclick=\"z\">",
}

// documents returns all of the documents above.
func documents() []string {
	var docs []string
	for _, line := range lines {
		docs = append(docs, line[0])
	}
	return append(docs, further...)
}

// stepped returns the state after a string, step by step.
func stepped(s state, text string) state {
	for i := range len(text) {
		s = htmlctx.Step(s, text[i])
	}
	return s
}

// TestLines has the contexts after each byte of documents.
func TestLines(t *testing.T) { // P15.1
	for _, line := range lines {
		doc, want := line[0], line[1]
		if len(doc) != len(want) {
			t.Fatalf("%q has %d bytes, not %d", doc, len(doc), len(want))
		}
		for i := range len(doc) {
			if got := htmlctx.Run(initial, doc[:i+1]).Ctx; got != strings.IndexByte(signs, want[i]) {
				t.Errorf("after %q: %d", doc[:i+1], got)
			}
		}
	}
}

func TestExamples(t *testing.T) { // P15.1, P15.2
	runs(t, `<a href="`, state{Ctx: htmlctx.URLDQ, Name: "a"})
	runs(t, "<script>x = 'y", state{Ctx: htmlctx.JSSQ})
	runs(t, "a<", state{Part: "<"})
	escapes(t, htmlctx.Run(initial, "a<"), 0, false)
}

// TestEmptyString has the run of the empty string from the states of all rules.
func TestEmptyString(t *testing.T) { // P15.1
	for s := range allStates() {
		if got := htmlctx.Run(s, ""); got != s {
			t.Fatalf("%+v became %+v", s, got)
		}
	}
}

// TestCuts cuts documents at every two places.
func TestCuts(t *testing.T) { // P15.1, P15.3
	for _, doc := range documents() {
		want := htmlctx.Run(initial, doc)
		if got := stepped(initial, doc); got != want {
			t.Fatalf("%q step by step: %+v; want %+v", doc, got, want)
		}
		for j := range len(doc) + 1 {
			for i := range j + 1 {
				if got := htmlctx.Run(htmlctx.Run(htmlctx.Run(initial, doc[:i]), doc[i:j]), doc[j:]); got != want {
					t.Fatalf("%q, cut at %d and %d: %+v; want %+v", doc, i, j, got, want)
				}
			}
		}
	}
}

// TestCutsFromEachState runs documents, cut at every place, from the states of all rules.
func TestCutsFromEachState(t *testing.T) { // P15.1, P15.3
	for from := range allStates() {
		for _, doc := range documents() {
			want, s := stepped(from, doc), from
			for i := range len(doc) + 1 {
				if got := htmlctx.Run(s, doc[i:]); got != want {
					t.Fatalf("%q from %+v, cut at %d: %+v; want %+v", doc, from, i, got, want)
				}
				if i < len(doc) {
					s = htmlctx.Step(s, doc[i])
				}
			}
		}
	}
}

// TestLongDocuments repeats pieces an even number of times: if a piece has one quote that begins a string or a value, that
// in the next piece ends it.
func TestLongDocuments(t *testing.T) { // P15.1
	for piece, want := range map[string]state{
		"x":               initial,
		"<":               {Part: "<"},
		"<a>":             initial,
		"<a b='":          {Ctx: htmlctx.Tag, Name: "a"},
		"<a b":            {Ctx: htmlctx.AttrName, Name: "a", Attr: "b"},
		"<!-- ":           {Ctx: htmlctx.Comment},
		`<script>"`:       {Ctx: htmlctx.Script},
		"<script></scrip": {Ctx: htmlctx.Script, Part: "</scrip"},
		`<style>'\''`:     {Ctx: htmlctx.Style},
	} {
		for _, n := range []int{20000, 200000} {
			doc := strings.Repeat(piece, n)
			if got := htmlctx.Run(initial, doc); got != want || stepped(initial, doc) != want {
				t.Errorf("after %d of %q: %+v; want %+v", n, piece, got, want)
			}
		}
	}
}

// TestArgumentsAreNotChanged has strings and states that are the same before and after the calls.
func TestArgumentsAreNotChanged(t *testing.T) { // rule 4
	for from := range allStates() {
		s := from
		name, attr, part := strings.Clone(s.Name), strings.Clone(s.Attr), strings.Clone(s.Part)
		for _, doc := range documents() {
			b := []byte(doc)
			text := string(b)
			htmlctx.Run(s, text)
			htmlctx.Escaper(s)
			if len(text) > 0 {
				htmlctx.Step(s, text[0])
			}
			if text != string(b) || s != from || s.Name != name || s.Attr != attr || s.Part != part {
				t.Fatalf("%q from %+v", doc, from)
			}
		}
	}
}

// TestConcurrentCalls calls the functions for the same arguments at the same time.
func TestConcurrentCalls(t *testing.T) { // rule 6
	want := make([]state, len(lines))
	for i, line := range lines {
		want[i] = htmlctx.Run(initial, line[0])
	}
	var all sync.WaitGroup
	for range 8 {
		all.Go(func() {
			for range 50 {
				for i, line := range lines {
					if htmlctx.Run(initial, line[0]) != want[i] || stepped(initial, line[0]) != want[i] {
						t.Error(line[0])
						return
					}
				}
			}
		})
	}
	all.Wait()
}
