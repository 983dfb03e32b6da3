package htmlctx_test

import (
	"strings"
	"testing"

	"tmplpipe/htmlctx"
)

// runs compares the state after a document with what is wanted.
func runs(t *testing.T, doc string, want state) {
	t.Helper()
	if got := htmlctx.Run(initial, doc); got != want {
		t.Fatalf("after %.200q: %+v; want %+v", doc, got, want)
	}
}

// kept returns what is kept of a name.
func kept(name string) string {
	b := []byte(name)
	if len(b) > 16 {
		b = b[:16]
	}
	s := ""
	for _, c := range b {
		s += small(c)
	}
	return s
}

// TestLongNames has names of tags and of attributes of each length up to 40 bytes, and a very long one.
func TestLongNames(t *testing.T) { // P15.1
	all := "aBcDeFgHiJ0-\xff_\xc3\x84QRSTUVWXYZabcdefghijklmnopqrstuvwxyz"
	var names []string
	for n := 1; n <= 40; n++ {
		names = append(names, all[:n], strings.Repeat("X", n), "x"+strings.Repeat("\x80", n-1))
	}
	names = append(names, strings.Repeat("Long", 20000))
	for _, name := range names {
		k := kept(name)
		runs(t, "<"+name, state{Ctx: htmlctx.TagName, Name: k})
		runs(t, "<"+name+">", initial)
		runs(t, "<"+name+" "+name, state{Ctx: htmlctx.AttrName, Name: k, Attr: k})
		runs(t, "<"+name+" "+name+" ", state{Ctx: htmlctx.AfterName, Name: k, Attr: k})
		runs(t, "<"+name+" "+name+" =", state{Ctx: htmlctx.BeforeValue, Name: k, Attr: k})
		runs(t, "<"+name+" "+name+"=\"", state{Ctx: htmlctx.ValueDQ, Name: k})
		runs(t, "<"+name+" "+name+"/", state{Ctx: htmlctx.Tag, Name: k})
		runs(t, "<"+name+" on"+name, state{Ctx: htmlctx.AttrName, Name: k, Attr: kept("on" + name)})
		runs(t, "<"+name+" on"+name+"='", state{Ctx: htmlctx.RawSQ, Name: k})
		runs(t, "<"+name+" "+name+" x", state{Ctx: htmlctx.AttrName, Name: k, Attr: "x"})
	}
	for _, name := range []string{"abcdefghijklmno", "abcdefghijklmnop"} {
		runs(t, "<"+name, state{Ctx: htmlctx.TagName, Name: name})
		runs(t, "<p "+name, state{Ctx: htmlctx.AttrName, Name: "p", Attr: name})
	}
	for _, name := range []string{"abcdefghijklmnopq", "ABCDEFGHIJKLMNOPQR", "abcdefghijklmnop<\"'=\xff"} {
		runs(t, "<"+strings.ReplaceAll(name, "=", ""), state{Ctx: htmlctx.TagName, Name: "abcdefghijklmnop"})
		runs(t, "<p "+strings.ReplaceAll(name, "=", ""), state{Ctx: htmlctx.AttrName, Name: "p", Attr: "abcdefghijklmnop"})
	}
}

// TestBytesOfNames has each byte within names.
func TestBytesOfNames(t *testing.T) { // P15.1
	for i := range 256 {
		c := string([]byte{byte(i)})
		if strings.Contains(spaces+"/>", c) {
			continue
		}
		runs(t, "<a"+c+"b", state{Ctx: htmlctx.TagName, Name: "a" + small(byte(i)) + "b"})
		runs(t, "<a "+c, state{Ctx: htmlctx.AttrName, Name: "a", Attr: small(byte(i))})
		runs(t, "<a x "+strings.ReplaceAll(c, "=", "y")+"z", state{Ctx: htmlctx.AttrName, Name: "a", Attr: strings.ReplaceAll(small(byte(i)), "=", "y") + "z"})
		if c != "=" {
			runs(t, "<a b"+c+"d", state{Ctx: htmlctx.AttrName, Name: "a", Attr: "b" + small(byte(i)) + "d"})
		}
	}
	// Letters that are not ASCII, of which some have a form among the ASCII letters.
	for _, name := range []string{"a\u017f", "a\u212a", "a\u0130", "a\u00c4\u00e4", "a\u0391", "a\U00010400"} {
		runs(t, "<"+name, state{Ctx: htmlctx.TagName, Name: name})
		runs(t, "<a "+name, state{Ctx: htmlctx.AttrName, Name: "a", Attr: name})
	}
	runs(t, "<\u00e4", initial)
	runs(t, "</\u00e4", initial)
	runs(t, "<\u017fcript>", initial)
	runs(t, "<\u017ftyle>", initial)
}

// TestElements has the elements script and style, and others with similar names.
func TestElements(t *testing.T) { // P15.1
	script, style := state{Ctx: htmlctx.Script}, state{Ctx: htmlctx.Style}
	for name, opened := range map[string]state{
		"script": script, "SCRIPT": script, "ScRiPt": script, "scripT": script, "Script": script,
		"style": style, "STYLE": style, "sTyLe": style, "Style": style, "stylE": style,
		"scripts": initial, "SCRIPTS": initial, "scrip": initial, "scriptx": initial, "script-": initial, "script=": initial, "script\x00": initial, "script\"": initial, "s": initial, "scriptstyle": initial, "script\u017f": initial,
		"styles": initial, "styl": initial, "style1": initial, "style'": initial, "style<": initial, "stylescript": initial, "\u017ftyle": initial, "\u017fcript": initial, "s\xe7ript": initial,
		"scriptscriptscript": initial, "style-------------": initial, "xscript": initial, "textarea": initial, "title": initial, "p": initial, "svg": initial,
	} {
		for _, rest := range []string{
			"", " ", "/", " /", "\t", "\n", "\f", "\r", " x", " x ", " x/", " x=", " x= ", " x=y", " x=y/", " x=y z", " x=''", ` x="y"`, ` x=">"`, ` x='>' y=">"/`, "/x", " x y", " x = y", " x=script", " style=''", " script", " / / ", " =", " ==", " \"", " '", " <",
		} {
			runs(t, "<"+name+rest+">", opened)
			runs(t, "a<b>"+"<"+name+rest+">", opened)
		}
		runs(t, "</"+name+">", initial)
		runs(t, "</"+name+" <x>", initial)
		runs(t, "<p "+name+">", initial)
		runs(t, "<p x="+name+">", initial)
		runs(t, "<!"+name+">", initial)
		runs(t, "< "+name+">", initial)
	}
}

// TestQuotedValues has names of attributes, in several spellings, with both quotes and white space before them.
func TestQuotedValues(t *testing.T) { // P15.1
	for name, quoted := range attrNames() {
		for _, spelling := range []string{name, strings.Map(upper, name), capital(name)} {
			for _, between := range []string{"=", " =", "= ", "\t\n\f\r =\r\f\n\t "} {
				for _, start := range []string{"<a ", "<A/", "<a x=y ", "<a x='y'", "<a x=\"y\"/", "<a href/", "<a onclick=/ "} {
					runs(t, start+spelling+between+`"`, state{Ctx: quoted[0], Name: "a"})
					runs(t, start+spelling+between+`'`, state{Ctx: quoted[1], Name: "a"})
					runs(t, start+spelling+between+`x`, state{Ctx: htmlctx.Unquoted, Name: "a"})
				}
			}
		}
		// White space or a slash between the name and a later = makes that another attribute, or the next one's.
		runs(t, "<a "+name+" /='", state{Ctx: htmlctx.AttrName, Name: "a", Attr: "='"})
		runs(t, "<a "+name+" x='", state{Ctx: htmlctx.ValueSQ, Name: "a"})
		runs(t, "<script "+name+"=''", state{Ctx: htmlctx.Tag, Name: "script"})
	}
}

func upper(r rune) rune {
	if r >= 'a' && r <= 'z' {
		return r - 32
	}
	return r
}

func capital(s string) string { return strings.ToUpper(s[:1]) + s[1:] }

// TestEndsOfValues has the bytes that end values in values of the other forms.
func TestEndsOfValues(t *testing.T) { // P15.1
	inside := "'\"<>/= \t\n\f\r</a></script>-->\\\x00\xff&;{{"
	for attr, quoted := range attrNames() {
		for i, quote := range []string{`"`, "'"} {
			value := strings.ReplaceAll(inside, quote, "")
			start := "<a " + attr + "=" + quote
			for n := range len(value) + 1 {
				runs(t, start+value[:n], state{Ctx: quoted[i], Name: "a"})
				runs(t, start+value[:n]+quote, state{Ctx: htmlctx.Tag, Name: "a"})
			}
			runs(t, start+value+`\`+quote, state{Ctx: htmlctx.Tag, Name: "a"})
			runs(t, start+value+quote+">", initial)
			runs(t, start+value+quote+quote, state{Ctx: htmlctx.AttrName, Name: "a", Attr: quote})
			runs(t, start+value+quote+"x", state{Ctx: htmlctx.AttrName, Name: "a", Attr: "x"})
			runs(t, start+value+quote+"X=", state{Ctx: htmlctx.BeforeValue, Name: "a", Attr: "x"})
		}
		start := "<a " + attr + "="
		for _, value := range []string{"x", "x/", "/", "=", "==", "x'", "x\"", "<", "x<y", "\\", "\xff", "x=y", "/'\"", "\x00", "\v", "x=/"} {
			runs(t, start+value, state{Ctx: htmlctx.Unquoted, Name: "a"})
			runs(t, start+value+">", initial)
			for _, space := range strings.Split(spaces, "") {
				runs(t, start+value+space, state{Ctx: htmlctx.Tag, Name: "a"})
				runs(t, start+value+space+"=", state{Ctx: htmlctx.AttrName, Name: "a", Attr: "="})
			}
		}
		runs(t, start+">", initial)
		runs(t, start+" \n>", initial)
	}
}
