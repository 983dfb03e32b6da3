package htmlctx_test

import (
	"maps"
	"slices"
	"strings"
	"testing"

	"tmplpipe/htmlctx"
)

type state = htmlctx.State

const (
	capitals = "ABCDEFGHIJKLMNOPQRSTUVWXYZ"
	smalls   = "abcdefghijklmnopqrstuvwxyz"
	letters  = capitals + smalls
	spaces   = " \t\n\f\r"
)

var initial state

// small returns the lower-case form of a byte.
func small(c byte) string {
	if i := strings.IndexByte(capitals, c); i >= 0 {
		return smalls[i : i+1]
	}
	return string([]byte{c})
}

// rule is what a paragraph of the chapter says of one of the states: the states after the bytes that it names, and after
// any other byte. How is a document that leads to the state.
type rule struct {
	how   string
	from  state
	named map[string]state
	other func(c byte) state
}

// to is for rules in which all other bytes lead to the same state.
func to(s state) func(byte) state { return func(byte) state { return s } }

// check takes the step with each byte.
func (r rule) check(t *testing.T) {
	t.Helper()
	if got := htmlctx.Run(initial, r.how); got != r.from {
		t.Fatalf("after %q: %+v; want %+v", r.how, got, r.from)
	}
	for i := range 256 {
		c := byte(i)
		want := r.other(c)
		for named, after := range r.named {
			if strings.IndexByte(named, c) >= 0 {
				want = after
			}
		}
		argument := r.from
		if got := htmlctx.Step(argument, c); got != want || argument != r.from {
			t.Fatalf("%q after %q: %+v; want %+v", c, r.how, got, want)
		}
		if got := htmlctx.Run(r.from, string([]byte{c})); got != want {
			t.Fatalf("Run for %q after %q: %+v; want %+v", c, r.how, got, want)
		}
	}
}

func textRules() []rule {
	part := func(s string) state { return state{Part: s} }
	tagName := func(c byte) state {
		if strings.IndexByte(letters, c) >= 0 {
			return state{Ctx: htmlctx.TagName, Name: small(c)}
		}
		return initial
	}
	markup, comment := state{Ctx: htmlctx.Markup}, state{Ctx: htmlctx.Comment}
	return []rule{
		{"", initial, map[string]state{"<": part("<")}, to(initial)},
		{"<", part("<"), map[string]state{"/": part("</"), "!": part("<!"), "<": part("<")}, tagName},
		{"</", part("</"), map[string]state{letters: {Ctx: htmlctx.EndTag}, "<": part("<")}, to(initial)},
		{"<!", part("<!"), map[string]state{"-": part("<!-"), ">": initial}, to(markup)},
		{"<!-", part("<!-"), map[string]state{"-": comment, ">": initial}, to(markup)},
	}
}

func markupRules() []rule {
	markup, endTag := state{Ctx: htmlctx.Markup}, state{Ctx: htmlctx.EndTag}
	none, one, two := state{Ctx: htmlctx.Comment}, state{Ctx: htmlctx.Comment, Part: "-"}, state{Ctx: htmlctx.Comment, Part: "--"}
	return []rule{
		{"</a", endTag, map[string]state{">": initial}, to(endTag)},
		{"<!a", markup, map[string]state{">": initial}, to(markup)},
		{"<!--", none, map[string]state{"-": one}, to(none)},
		{"<!---", one, map[string]state{"-": two}, to(none)},
		{"<!----", two, map[string]state{"-": two, ">": initial}, to(none)},
	}
}

// tagNames are lower-case names, and the states in which the elements are opened.
func tagNames() map[string]state {
	return map[string]state{
		"a": initial, "z": initial, "h1": initial, "a-b": initial, "scrip": initial, "scripts": initial, "xscript": initial, "styl": initial, "styles": initial, "p\xff\x80": initial, "a<\"'=": initial,
		"abcdefghijklmno": initial, "abcdefghijklmnop": initial, "scriptscriptscri": initial,
		"script": {Ctx: htmlctx.Script}, "style": {Ctx: htmlctx.Style},
	}
}

// attrNames are lower-case names, and the contexts of their values in double and in single quotes.
func attrNames() map[string][2]int {
	url, raw, value := [2]int{htmlctx.URLDQ, htmlctx.URLSQ}, [2]int{htmlctx.RawDQ, htmlctx.RawSQ}, [2]int{htmlctx.ValueDQ, htmlctx.ValueSQ}
	return map[string][2]int{
		"href": url, "src": url, "action": url, "formaction": url,
		"on": raw, "onx": raw, "onclick": raw, "on\xff": raw, "on1": raw, "onabcdefghijklmn": raw, "style": raw, "srcdoc": raw,
		"x": value, "o": value, "no": value, "o-n": value, "xon": value, "=on": value, "=": value, "\xff": value, "\"'<": value,
		"hre": value, "hrefs": value, "xhref": value, "sr": value, "srcs": value, "srcset": value, "srcdo": value, "srcdocs": value,
		"actio": value, "actions": value, "formactio": value, "formactions": value, "form": value, "styl": value, "styles": value, "data-href": value,
		"abcdefghijklmno": value, "abcdefghijklmnop": value, "formactionformac": value,
	}
}

// tagRules are those of a tag with this name and an attribute with this name.
func tagRules(name, attr string, opened state, quoted [2]int) []rule {
	in := func(ctx int) state { return state{Ctx: ctx, Name: name} }
	of := func(ctx int) state { return state{Ctx: ctx, Name: name, Attr: attr} }
	added := func(kept string, c byte) string {
		if len(kept) == 16 {
			return kept
		}
		return kept + small(c)
	}
	tag, begun := in(htmlctx.Tag), func(c byte) state { return state{Ctx: htmlctx.AttrName, Name: name, Attr: small(c)} }
	start := "<" + name
	rules := []rule{
		{start, in(htmlctx.TagName), map[string]state{spaces + "/": tag, ">": opened}, func(c byte) state { return state{Ctx: htmlctx.TagName, Name: added(name, c)} }},
		{start + " ", tag, map[string]state{spaces + "/": tag, ">": opened}, begun},
		{start + "/" + attr, of(htmlctx.AttrName), map[string]state{spaces: of(htmlctx.AfterName), "/": tag, "=": of(htmlctx.BeforeValue), ">": opened}, func(c byte) state { return state{Ctx: htmlctx.AttrName, Name: name, Attr: added(attr, c)} }},
		{start + " " + attr + "\n", of(htmlctx.AfterName), map[string]state{spaces: of(htmlctx.AfterName), "/": tag, "=": of(htmlctx.BeforeValue), ">": opened}, begun},
		{start + " " + attr + "=", of(htmlctx.BeforeValue), map[string]state{spaces: of(htmlctx.BeforeValue), ">": opened, `"`: in(quoted[0]), "'": in(quoted[1])}, to(in(htmlctx.Unquoted))},
		{start + " " + attr + "=x", in(htmlctx.Unquoted), map[string]state{spaces: tag, ">": opened}, to(in(htmlctx.Unquoted))},
	}
	for i, quote := range []string{`"`, "'"} {
		value := in(quoted[i])
		rules = append(rules, rule{start + " " + attr + "=" + quote, value, map[string]state{quote: tag}, to(value)})
	}
	return rules
}

// contentRules are those of an element with this name, this code context, and these contexts of strings.
func contentRules(name string, code, double, single int) []rule {
	end := "</" + name
	var rules []rule
	for n := range len(end) {
		part, start := end[:n], "<"+name+">"
		next := end[n : n+1]
		next += strings.ToUpper(next)
		inCode := rule{start + part, state{Ctx: code, Part: part}, map[string]state{`"`: {Ctx: double}, "'": {Ctx: single}}, to(state{Ctx: code})}
		inDouble := rule{start + `"` + part, state{Ctx: double, Part: part}, map[string]state{"\"\n": {Ctx: code}, `\`: {Ctx: double, Part: `\`}}, to(state{Ctx: double})}
		inSingle := rule{start + "'" + part, state{Ctx: single, Part: part}, map[string]state{"'\n": {Ctx: code}, `\`: {Ctx: single, Part: `\`}}, to(state{Ctx: single})}
		for _, r := range []rule{inCode, inDouble, inSingle} {
			if n > 0 {
				r.named["<"] = state{Ctx: r.from.Ctx, Part: "<"}
			}
			r.named[next] = state{Ctx: r.from.Ctx, Part: end[:n+1]}
			if n == len(end)-1 {
				r.named[next] = state{Ctx: htmlctx.EndTag}
			}
			rules = append(rules, r)
		}
	}
	for ctx, quote := range map[int]string{double: `"`, single: "'"} {
		rules = append(rules, rule{"<" + name + ">" + quote + `\`, state{Ctx: ctx, Part: `\`}, map[string]state{"<": {Ctx: ctx, Part: "<"}}, to(state{Ctx: ctx})})
	}
	return rules
}

// allRules are those of all contexts.
func allRules() []rule {
	rules := slices.Concat(textRules(), markupRules(),
		contentRules("script", htmlctx.Script, htmlctx.JSDQ, htmlctx.JSSQ),
		contentRules("style", htmlctx.Style, htmlctx.CSSDQ, htmlctx.CSSSQ))
	names, attrs := tagNames(), attrNames()
	for _, name := range slices.Sorted(maps.Keys(names)) {
		for _, attr := range slices.Sorted(maps.Keys(attrs)) {
			rules = append(rules, tagRules(name, attr, names[name], attrs[attr])...)
		}
	}
	return rules
}

// allStates returns the states of all rules.
func allStates() map[state]bool {
	states := map[state]bool{}
	for _, r := range allRules() {
		states[r.from] = true
	}
	return states
}

func TestText(t *testing.T) { // P15.1
	for _, r := range textRules() {
		r.check(t)
	}
}

func TestEndTagMarkupAndComment(t *testing.T) { // P15.1
	for _, r := range markupRules() {
		r.check(t)
	}
}

func TestTags(t *testing.T) { // P15.1
	for name, opened := range tagNames() {
		for attr, quoted := range attrNames() {
			for _, r := range tagRules(name, attr, opened, quoted) {
				r.check(t)
			}
		}
	}
}

func TestScripts(t *testing.T) { // P15.1
	for _, r := range contentRules("script", htmlctx.Script, htmlctx.JSDQ, htmlctx.JSSQ) {
		r.check(t)
	}
}

func TestStyles(t *testing.T) { // P15.1
	for _, r := range contentRules("style", htmlctx.Style, htmlctx.CSSDQ, htmlctx.CSSSQ) {
		r.check(t)
	}
}

// TestRulesOfAllContexts makes sure that the rules above leave no context out.
func TestRulesOfAllContexts(t *testing.T) { // P15.1
	seen := map[int]bool{}
	for s := range allStates() {
		seen[s.Ctx] = true
	}
	for ctx := range 22 {
		if !seen[ctx] {
			t.Error(ctx)
		}
	}
}

// TestContexts writes down the numbers of the contexts.
func TestContexts(t *testing.T) { // P15.1
	for want, ctx := range []int{
		htmlctx.Text, htmlctx.Tag, htmlctx.TagName, htmlctx.AttrName, htmlctx.AfterName, htmlctx.BeforeValue, htmlctx.Unquoted,
		htmlctx.ValueDQ, htmlctx.ValueSQ, htmlctx.URLDQ, htmlctx.URLSQ, htmlctx.RawDQ, htmlctx.RawSQ, htmlctx.Comment, htmlctx.Markup, htmlctx.EndTag,
		htmlctx.Script, htmlctx.JSDQ, htmlctx.JSSQ, htmlctx.Style, htmlctx.CSSDQ, htmlctx.CSSSQ,
	} {
		if ctx != want {
			t.Error(ctx, want)
		}
	}
}

// TestUnknownStates has states for which the chapter only says that the calls terminate.
func TestUnknownStates(t *testing.T) { // P1, P15.1
	parts := []string{"<", "</", "<!", "<!-", "-", "--", "---", `\`, `\\`, "</script", "</style", "</scripts", "</SCRIPT", "<script", "x", "\x00", "\xff", strings.Repeat("<", 99)}
	names := []string{"", "a", "script", "Style", strings.Repeat("n", 40)}
	for _, ctx := range append(allContexts(), otherContexts...) {
		for _, part := range parts {
			for _, name := range names {
				s := state{Ctx: ctx, Name: name, Attr: name, Part: part}
				for c := range 256 {
					htmlctx.Step(s, byte(c))
				}
				htmlctx.Run(s, "a<b c='d'e=\"f\"g=h i>--></script><!--")
				htmlctx.Escaper(s)
			}
		}
	}
}
