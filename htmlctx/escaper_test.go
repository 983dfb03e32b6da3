package htmlctx_test

import (
	"math"
	"strings"
	"testing"

	"tmplpipe/api"
	"tmplpipe/escape"
	"tmplpipe/htmlctx"
)

// otherContexts are numbers of which none is a context.
var otherContexts = []int{-1, -2, -7, -17, math.MinInt, math.MinInt + 1, math.MinInt32, -1 << 8, 22, 23, 24, 31, 32, 64, 255, 256, 256 + 7, 1 << 16, math.MaxInt32, 1 << 32, 1<<32 + 9, math.MaxInt - 1, math.MaxInt}

func allContexts() []int {
	var all []int
	for ctx := range 22 {
		all = append(all, ctx)
	}
	return all
}

// escapers are those of the contexts that have one.
func escapers() map[int]int {
	return map[int]int{
		htmlctx.Text: api.EscText, htmlctx.ValueDQ: api.EscAttr, htmlctx.ValueSQ: api.EscAttr, htmlctx.URLDQ: api.EscURL, htmlctx.URLSQ: api.EscURL,
		htmlctx.JSDQ: api.EscJS, htmlctx.JSSQ: api.EscJS, htmlctx.CSSDQ: api.EscCSS, htmlctx.CSSSQ: api.EscCSS,
	}
}

// escapes compares the results of Escaper with what is wanted.
func escapes(t *testing.T, s state, want int, wantOK bool) {
	t.Helper()
	if got, ok := htmlctx.Escaper(s); got != want || ok != wantOK {
		t.Fatalf("Escaper(%+v) = %d, %v; want %d, %v", s, got, ok, want, wantOK)
	}
}

// TestEscapers writes down the escapers of the contexts in their order; -1 stands for none.
func TestEscapers(t *testing.T) { // P15.2
	for ctx, want := range []int{0, -1, -1, -1, -1, -1, -1, 1, 1, 2, 2, -1, -1, -1, -1, -1, -1, 3, 3, -1, 4, 4} {
		escapes(t, state{Ctx: ctx}, max(want, 0), want >= 0)
	}
}

// TestEscaperOfAllStates has contexts and other numbers, each with names and with an empty Part and others.
func TestEscaperOfAllStates(t *testing.T) { // P15.2
	for _, ctx := range append(allContexts(), otherContexts...) {
		for _, name := range []string{"", "a", "script", "style", "\xff", strings.Repeat("n", 99)} {
			for _, attr := range []string{"", "href", "onx", "style", "x", "\x00", strings.Repeat("n", 99)} {
				want, found := escapers()[ctx]
				escapes(t, state{Ctx: ctx, Name: name, Attr: attr}, want, found)
				for _, part := range []string{"<", "</", "<!", "<!-", "-", "--", `\`, "</s", "</scrip", "</styl", "</script", " ", "\x00", "x", "\xff"} {
					escapes(t, state{Ctx: ctx, Name: name, Attr: attr, Part: part}, 0, false)
				}
			}
		}
	}
}

// TestEscaperOfRules has the states of all rules, with each Part that can occur.
func TestEscaperOfRules(t *testing.T) { // P15.2
	for s := range allStates() {
		want, found := escapers()[s.Ctx]
		if s.Part != "" {
			want, found = 0, false
		}
		escapes(t, s, want, found)
	}
}

// values are strings whose escaped forms are inserted below.
func values() []string {
	list := []string{
		"", "a", "abc", "</script>", "</style>", "</SCRIPT", "<!--", "-->", "<a b='c' d=\"e\">", "\\", "\\\\", "\\\"", "\\'", "\\\n", "\r\n", "'", `"`, "`", "''", `""`, "&", "&lt;", "&#34;", "%22", "\\u0022", "\\22 ", "\u2028\u2029",
		"</", "<", "x<", "<\\", "\\<", "'+alert(1)+'", "javascript:alert('x')", "url(\"x\")", "{{.a}}", "a=b c", "> >", "/>", strings.Repeat("<\"'\\\n", 500),
		"\u0080", "\u07ff", "\u0800", "\uffff", "\U00010000", "\U0010ffff", "\u00e4\u20ac\U0001f600", "\u00e4'\u20ac\"\U0001f600<\\", "\u017f\u212a", "\ufeff", "\u00a0",
		"\x80", "\xff", "\xc0\xbc", "\xe2\x80", "\xf0\x9f\x98", "\xed\xa0\x80", "\xf4\x90\x80\x80", "<\xff", "\xff<", "\\\xff", "\xff'", "\"\xc3", "\xe0\x80\xbc",
	}
	ascii := ""
	for c := range 128 {
		s := string([]byte{byte(c)})
		ascii += s
		list = append(list, s, "x"+s, s+"x", s+s, "\\"+s, "<"+s, s+"<", s+"\\", s+"\n", "\xff"+s)
	}
	list = append(list, ascii)
	for c := 128; c < 256; c++ {
		list = append(list, string([]byte{byte(c)}), string(rune(c)))
	}
	return list
}

// insertions are documents that lead to the states with escapers, several to each of them.
var insertions = []string{
	"", "x", "</b>", "<p>", "<!>", "<!--x-->", "<script></script>",
	`<a x="`, `<a x="y`, `<a x='`, `<a x='y`, `<script y="`, `<style y='`, `<a x = '&`, `<p data-x="=`,
	`<a href="`, `<a href="/x?y=`, `<img src='`, `<form action="`, `<script src='`, `<button formaction='&`, `<style href="`,
	`<script>"`, `<script>"x\"`, `<script>'`, `<script>'\\`, `<script>"</x`,
	`<style>"`, `<style>"x\"`, `<style>'`, `<style>'\\`, `<style>'</x`,
}

// TestResultsOfEscapersStay inserts the results of the escapers in the states that have them.
func TestResultsOfEscapersStay(t *testing.T) { // P15.3
	inserted := map[int]bool{}
	list := values()
	for _, doc := range insertions {
		s := htmlctx.Run(initial, doc)
		esc, ok := htmlctx.Escaper(s)
		if !ok {
			t.Fatalf("%q has no escaper", doc)
		}
		inserted[s.Ctx] = true
		all := ""
		for _, value := range list {
			result, err := escape.Escape(esc, value)
			if err != api.OK {
				t.Fatal(esc, err)
			}
			all += result
			if got := htmlctx.Run(s, result); got != s || stepped(s, result) != s {
				t.Fatalf("%q after %q: %+v; want %+v", result, doc, got, s)
			}
		}
		if got := htmlctx.Run(s, all); got != s {
			t.Fatalf("all results after %q: %+v; want %+v", doc, got, s)
		}
	}
	if len(inserted) != len(escapers()) {
		t.Error(inserted)
	}
}

// TestResultsForRunesStay inserts the escaped form of each code point in each context that has an escaper.
func TestResultsForRunesStay(t *testing.T) { // P15.3
	for _, doc := range insertions {
		s := htmlctx.Run(initial, doc)
		esc, _ := htmlctx.Escaper(s)
		for r := rune(0); r <= 0x10ffff; r++ {
			if r > 0x3000 && r%97 != 0 {
				continue
			}
			result, _ := escape.Rune(esc, r)
			if got := htmlctx.Run(s, result); got != s {
				t.Fatalf("%q after %q: %+v; want %+v", result, doc, got, s)
			}
		}
	}
}

// TestOtherStringsMayLeave has strings that no escaper returns, so that the tests above could fail.
func TestOtherStringsMayLeave(t *testing.T) { // P15.3
	for doc, text := range map[string]string{
		"": "<", `<a x="`: `"`, `<a x='`: "'", `<a href="`: `"`, `<a href='`: "'", `<script>"`: "\n", `<script>'`: `\`, `<style>"`: "</style", `<style>'`: "'",
	} {
		if s := htmlctx.Run(initial, doc); htmlctx.Run(s, text) == s {
			t.Errorf("%q stays after %q", text, doc)
		}
	}
}
