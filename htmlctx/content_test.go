package htmlctx_test

import (
	"strings"
	"testing"

	"tmplpipe/htmlctx"
)

// content is an element whose content is code.
type content struct {
	start                string // its tag
	end                  string // its end string
	otherEnd             string // that of the other element
	code, double, single int
}

func contents() []content {
	return []content{
		{"<script>", "</script", "</style", htmlctx.Script, htmlctx.JSDQ, htmlctx.JSSQ},
		{"<style>", "</style", "</script", htmlctx.Style, htmlctx.CSSDQ, htmlctx.CSSSQ},
	}
}

// openings are, for an element, what leads to each of its contexts, and the contexts.
func (e content) openings() map[string]int {
	return map[string]int{e.start: e.code, e.start + `"`: e.double, e.start + "'": e.single}
}

// TestStrings writes down the contexts in code and in strings; c, d and s stand for those of the element.
func TestStrings(t *testing.T) { // P15.1
	for text, want := range map[string]string{
		"": "c", "x": "c", `"`: "d", "'": "s", `""`: "c", "''": "c", `"'`: "d", `'"`: "s", `"'"`: "c", `'"'`: "c",
		"x = 'y": "s", "x = 'y'": "c", `x = "y`: "d", `'a''b`: "s", `"a" + 'b`: "s",
		"\"\n": "c", "'\n": "c", "\"x\n\"": "d", "'x\n'": "s", "\n": "c", "\n\n": "c", "\"\n\n": "c", "\"\n'": "s", "\"\r": "d", "\"\f": "d", "'\u2028": "s", "'\v": "s",
		`\`: "c", `\"`: "d", `\'`: "s", `\\"`: "d", "\\\n": "c", "\\\n'": "s",
		`"\"`: "d", `'\'`: "s", `"\""`: "c", `'\''`: "c", `"\'`: "d", `'\"`: "s", `"\'"`: "c", `'\"'`: "c",
		`"\\"`: "c", `'\\'`: "c", `"\\\"`: "d", `"\\\""`: "c", `'\\\\'`: "c", `"\x"`: "c", `"\x\"`: "d",
		"\"\\\n": "d", "'\\\n": "s", "\"\\\n\"": "c", "\"\\\n\n": "c", "\"\\\\\n": "c", "'\\\\\n": "c",
		`"\<"`: "c", `'\<'`: "c", `"\<\"`: "d", `"\<\<\"`: "d", "\"\\<\n": "c", "'\\<\n": "c", `"<\"`: "d", `"<\""`: "c", "'<\n": "c", `<"`: "d", "<'": "s",
		`/"/`: "d", `//'`: "s", `/*"*/`: "d", "`": "c", "`'": "s", "`\"`": "d", "&quot;": "c", "'&#39;": "s", "(": "c", `url("`: "d", "\x00'": "s", "\xff\"": "d", "'\xff'": "c",
		"<!--'": "s", "<!--": "c", "'-->": "s", "<b a='": "s", "<b>'": "s", ">": "c", "'>": "s", "<": "c<", "'<": "s<", `"\`: `d\`, `'\`: `s\`, `'\\\`: `s\`, `"\</`: "d</", "</": "c</",
	} {
		for _, e := range contents() {
			ctx := map[byte]int{'c': e.code, 'd': e.double, 's': e.single}[want[0]]
			runs(t, e.start+text, state{Ctx: ctx, Part: want[1:]})
		}
	}
}

// TestEndStrings has the whole end string, also in other spellings and behind other parts of it.
func TestEndStrings(t *testing.T) { // P15.1
	endTag := state{Ctx: htmlctx.EndTag}
	for _, e := range contents() {
		for opening := range e.openings() {
			for _, before := range []string{"", "x", "<", "<<<", "</", "</s", "</S<", e.end[:len(e.end)-1], "\\", "\\\\", "\\\\\\", "x\\", e.otherEnd, e.otherEnd + ">", "< ", "<\\", "\xff", "\\<", "<!--", "-->"} {
				for _, end := range []string{e.end, strings.ToUpper(e.end), "</" + capital(e.end[2:]), e.end[:5] + strings.ToUpper(e.end[5:])} {
					doc := opening + before + end
					runs(t, doc, endTag)
					for _, rest := range []string{"x", " ", "s", "/", "<", "\n", "'", `"`, "</", e.end, " x='", "-->"[:2], `\`} {
						runs(t, doc+rest, endTag)
						runs(t, doc+rest+">", initial)
					}
					runs(t, doc+">", initial)
					runs(t, doc+"><b c='", state{Ctx: htmlctx.ValueSQ, Name: "b"})
					runs(t, doc+">'<a href='", state{Ctx: htmlctx.URLSQ, Name: "a"})
				}
			}
		}
	}
}

// TestPartsOfEndStrings has proper prefixes of the end string, in several spellings.
func TestPartsOfEndStrings(t *testing.T) { // P15.1
	for _, e := range contents() {
		for opening, ctx := range e.openings() {
			for n := range len(e.end) {
				part := e.end[:n]
				for _, spelling := range []string{part, strings.ToUpper(part)} {
					for _, before := range []string{"", "x", "<", "</", "</s", "\xc5\xbf", e.otherEnd} {
						if n > 0 || before == "" || before == "x" {
							runs(t, opening+before+spelling, state{Ctx: ctx, Part: part})
						}
					}
				}
			}
		}
	}
}

// TestInterruptedEndStrings interrupts the end string at each of its bytes.
func TestInterruptedEndStrings(t *testing.T) { // P15.1
	for _, e := range contents() {
		for opening, ctx := range e.openings() {
			for n := 1; n < len(e.end); n++ {
				head, tail := opening+e.end[:n], e.end[n:]
				for _, other := range []string{"x", "!", " ", "-", ">", "\x00", "\xff", "\u017f", "0"} {
					runs(t, head+other, state{Ctx: ctx})
					runs(t, head+other+tail, state{Ctx: ctx})
				}
				runs(t, head+"<", state{Ctx: ctx, Part: "<"})
				runs(t, head+"<"+e.end[1:], state{Ctx: htmlctx.EndTag})
				if n > 1 {
					runs(t, head+"<"+tail, state{Ctx: ctx})
				}
				interruptedByQuotes(t, e, head, ctx, tail)
			}
		}
	}
}

// interruptedByQuotes interrupts the end string behind head, in this context, by a quote, a backslash and a newline.
func interruptedByQuotes(t *testing.T, e content, head string, ctx int, tail string) {
	t.Helper()
	backslash := state{Ctx: ctx, Part: `\`}
	after := map[string]int{`"`: ctx, "'": ctx, "\n": e.code}
	switch ctx {
	case e.code:
		backslash, after[`"`], after["'"] = state{Ctx: ctx}, e.double, e.single
	case e.double:
		after[`"`] = e.code
	case e.single:
		after["'"] = e.code
	}
	for interruption, want := range after {
		runs(t, head+interruption, state{Ctx: want})
		runs(t, head+interruption+tail, state{Ctx: want})
	}
	runs(t, head+`\`, backslash)
	runs(t, head+`\`+tail, state{Ctx: ctx})
	runs(t, head+`\`+tail+e.end, state{Ctx: htmlctx.EndTag})
}

// TestOtherEndStrings has the end string of the other element, and strings that are similar to an end string.
func TestOtherEndStrings(t *testing.T) { // P15.1
	for _, e := range contents() {
		for opening, ctx := range e.openings() {
			for _, text := range []string{e.otherEnd, e.otherEnd + ">", strings.ToUpper(e.otherEnd), "</ " + e.end[2:], "< " + e.end[1:], "<" + e.end[2:], e.end[1:], "</" + e.end[3:], "<\\" + e.end[1:], "<//" + e.end[2:], "</\u017f" + e.end[3:], "&lt;" + e.end[1:], "</a>", "<!", "</p"} {
				runs(t, opening+text, state{Ctx: ctx})
			}
		}
	}
}
