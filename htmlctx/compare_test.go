package htmlctx_test

import (
	"regexp"
	"strings"
	"testing"

	"tmplpipe/htmlctx"
)

// The chapter describes documents by their bytes; here they are described by their tokens.
var (
	// The first group of each is what is followed by text again.
	tokens = compiled(`^([^<]+)`, `^(<)<`, `^(</)<`, `^(<[^a-zA-Z/!<])`, `^(</[^a-zA-Z<])`, `^(</[a-zA-Z][^>]*>)`, `^(<!--.*?-->)`, `^(<!-?>)`, `^(<!-?[^->][^>]*>)`)

	tagStart  = regexp.MustCompile(`^<([a-zA-Z][^ \t\n\f\r/>]*)`)
	between   = regexp.MustCompile(`^[ \t\n\f\r/]+`)
	attribute = regexp.MustCompile(`^([^ \t\n\f\r/>][^ \t\n\f\r/>=]*)([ \t\n\f\r]*)(=[ \t\n\f\r]*)?`)
	unquoted  = regexp.MustCompile(`^[^ \t\n\f\r>]+`)
	urls      = regexp.MustCompile(`^(href|src|action|formaction)$`)
	raws      = regexp.MustCompile(`^(on|style$|srcdoc$)`)
	inString  = regexp.MustCompile(`(?s)^("(\\.|[^"\\\n])*|'(\\.|[^'\\\n])*)`)
	notString = regexp.MustCompile(`^[^"']+`)
	scriptEnd = regexp.MustCompile(`</[sS][cC][rR][iI][pP][tT]`)
	styleEnd  = regexp.MustCompile(`</[sS][tT][yY][lL][eE]`)
)

// unfinished are the states after tokens that are not whole, and not tags. The first form that fits counts.
var unfinished = []struct {
	form  *regexp.Regexp
	state state
}{
	{regexp.MustCompile(`^<$`), state{Part: "<"}},
	{regexp.MustCompile(`^</$`), state{Part: "</"}},
	{regexp.MustCompile(`^<!$`), state{Part: "<!"}},
	{regexp.MustCompile(`^<!-$`), state{Part: "<!-"}},
	{regexp.MustCompile(`(?s)^<!--.*--$`), state{Ctx: htmlctx.Comment, Part: "--"}},
	{regexp.MustCompile(`(?s)^<!--.*-$`), state{Ctx: htmlctx.Comment, Part: "-"}},
	{regexp.MustCompile(`^<!--`), state{Ctx: htmlctx.Comment}},
	{regexp.MustCompile(`^<!`), state{Ctx: htmlctx.Markup}},
	{regexp.MustCompile(`^</`), state{Ctx: htmlctx.EndTag}},
}

func compiled(forms ...string) []*regexp.Regexp {
	var list []*regexp.Regexp
	for _, form := range forms {
		list = append(list, regexp.MustCompile("(?s)"+form))
	}
	return list
}

// described returns the state after a document.
func described(doc string) state {
	s := initial
	for doc != "" {
		doc, s = describedToken(doc)
	}
	return s
}

// describedToken passes over the first token of a document, or if that is not whole, over all of it.
func describedToken(doc string) (rest string, s state) {
	for _, form := range tokens {
		if found := form.FindStringSubmatch(doc); found != nil {
			return doc[len(found[1]):], initial
		}
	}
	if found := tagStart.FindStringSubmatch(doc); found != nil {
		return describedTag(doc[len(found[0]):], kept(found[1]))
	}
	for _, u := range unfinished {
		if u.form.MatchString(doc) {
			return "", u.state
		}
	}
	panic(doc)
}

// describedTag passes over what is behind the name of a tag, and over the content if that is code.
func describedTag(doc, name string) (rest string, s state) {
	s = state{Ctx: htmlctx.TagName, Name: name}
	for doc != "" {
		if doc[0] == '>' {
			return describedContent(doc[1:], name)
		}
		if passed := between.FindString(doc); passed != "" {
			doc, s = doc[len(passed):], state{Ctx: htmlctx.Tag, Name: name}
			continue
		}
		found := attribute.FindStringSubmatch(doc)
		doc, s = doc[len(found[0]):], state{Ctx: htmlctx.AttrName, Name: name, Attr: kept(found[1])}
		switch {
		case found[3] != "":
			doc, s = describedValue(doc, s)
		case found[2] != "":
			s.Ctx = htmlctx.AfterName
		}
	}
	return "", s
}

// describedValue passes over the value of an attribute. What is behind the tag is not looked at.
func describedValue(doc string, name state) (rest string, s state) {
	switch {
	case doc == "" || doc[0] == '>':
		name.Ctx = htmlctx.BeforeValue
		return doc, name
	case doc[0] != '"' && doc[0] != '\'':
		return doc[len(unquoted.FindString(doc)):], state{Ctx: htmlctx.Unquoted, Name: name.Name}
	}
	_, rest, closed := strings.Cut(doc[1:], doc[:1])
	if closed {
		return rest, state{Ctx: htmlctx.Tag, Name: name.Name}
	}
	s = state{Ctx: htmlctx.ValueDQ, Name: name.Name}
	switch {
	case urls.MatchString(name.Attr):
		s.Ctx = htmlctx.URLDQ
	case raws.MatchString(name.Attr):
		s.Ctx = htmlctx.RawDQ
	}
	if doc[0] == '\'' {
		s.Ctx++
	}
	return "", s
}

// describedContent passes over the code in an element of this name, and over its end tag.
func describedContent(doc, name string) (rest string, s state) {
	code, end := htmlctx.Script, scriptEnd
	switch name {
	case "style":
		code, end = htmlctx.Style, styleEnd
	case "script":
	default:
		return doc, initial
	}
	if at := end.FindStringIndex(doc); at != nil {
		_, rest, closed := strings.Cut(doc[at[1]:], ">")
		if closed {
			return rest, initial
		}
		return "", state{Ctx: htmlctx.EndTag}
	}
	s = state{Ctx: code}
	if last := strings.LastIndexByte(doc, '<'); last >= 0 && strings.HasPrefix("</"+name, kept(doc[last:])) {
		s.Part = kept(doc[last:])
	}
	for doc != "" {
		doc = doc[len(notString.FindString(doc)):]
		passed := inString.FindString(doc)
		doc = doc[len(passed):]
		switch {
		case passed == "" || doc != "" && doc != `\`: // the string, if there is one, ends with the next byte
			doc = doc[min(len(doc), 1):]
			continue
		case doc == `\`:
			s.Part = `\`
		}
		s.Ctx = code + 1 + strings.IndexByte(`"'`, passed[0])
		doc = ""
	}
	return "", s
}

// compare compares Run with what is described.
func compare(t *testing.T, doc string) {
	if got, want := htmlctx.Run(initial, doc), described(doc); got != want {
		t.Helper()
		t.Fatalf("after %q: %+v; want %+v", doc, got, want)
	}
}

// forEachSequence calls f for each sequence of up to n of the pieces, which it joins.
func forEachSequence(n int, pieces []string, f func(string)) {
	var choose func(chosen string, left int)
	choose = func(chosen string, left int) {
		f(chosen)
		if left == 0 {
			return
		}
		for _, piece := range pieces {
			choose(chosen+piece, left-1)
		}
	}
	choose("", n)
}

// compareSequences compares all sequences of up to n of the pieces behind each of the starts.
func compareSequences(t *testing.T, starts []string, n int, pieces ...string) {
	t.Helper()
	for _, start := range starts {
		forEachSequence(n, pieces, func(doc string) { compare(t, start+doc) })
	}
}

func TestSequencesOfText(t *testing.T) { // P15.1
	compareSequences(t, []string{""}, 6, "<", ">", "/", "!", "-", "a", " ")
	compareSequences(t, []string{"<!", "<!-", "<!--", "</", "a"}, 5, "<", ">", "/", "!", "-", "A", "\xff")
	compareSequences(t, []string{"<!--", "<!---"}, 7, "-", ">", "a", "<")
}

func TestSequencesOfTags(t *testing.T) { // P15.1
	compareSequences(t, []string{"<a", "<A x", "<script"}, 5, " ", "/", ">", "=", `"`, "'", "x", "<")
	compareSequences(t, []string{"<a ", "<STYLE\n", "<p x="}, 4, " ", "/", ">", "=", `"`, "'", "x", "href", "On", "src", "DOC", "style", "\xff")
	compareSequences(t, []string{"<a", "<a "}, 6, "form", "action", "src", "set", "=\"")
	compareSequences(t, []string{"<p", "<p q=r ", "<p q='r'"}, 4, "\t", "\n", "\f", "\r", "\v", "\x00", "=", "x", ">", "'")
	compareSequences(t, []string{"<"}, 4, "s", "C", "ript", "tyle", "STYLE", "script", "S", ">", " ", "'")
	compareSequences(t, []string{"<a", "<x a", "<x a b"}, 6, "abcde", "FGH", "-", "z", "=")
}

func TestSequencesOfContent(t *testing.T) { // P15.1
	for _, e := range contents() {
		compareSequences(t, []string{e.start}, 5, "<", "/", e.end[2:7], e.end[7:], `"`, "'", `\`, "\n", "x", ">")
		compareSequences(t, []string{e.start + `"`, e.start + "'"}, 5, "<", e.end[1:], e.end, strings.ToUpper(e.end[:6]), `"`, "'", `\`, "\n", " ")
		compareSequences(t, []string{e.start + e.end, e.start + "'" + e.end[:4]}, 4, e.end[4:], e.otherEnd, e.start, "<", ">", `"`, "'", `\`, "\n")
		compareSequences(t, []string{e.start}, 7, "'", `"`, `\`, "\n", "<")
	}
}

// TestIrregularDocuments has documents of many pieces of all sorts, which a fixed rule chooses.
func TestIrregularDocuments(t *testing.T) { // P15.1
	pieces := []string{
		"<", "</", "<!", "<!-", "<!--", "-", "-->", ">", "/>", "/", "=", `"`, "'", `="`, "='", " ", "\n", "\t", `\`, "a", "B", "z", "0", "\x00", "\xff", "\u20ac", "\u017f", "<a ", "<p>", "</p>",
		"<script>", "<style>", "<SCRIPT x='y'>", "</script>", "</STYLE >", "</scrip", "</styl", "t", "e", "href", "src", "onload", "style", "srcdoc", "action", "formaction", "title", "x = 'y", "<!doctype html>", "averyveryverylongname",
	}
	seed := uint32(1)
	for range 40000 {
		doc := ""
		for range 1 + seed>>8%40 {
			seed = seed*1664525 + 1013904223
			doc += pieces[seed>>8%uint32(len(pieces))]
		}
		compare(t, doc)
		seed += uint32(len(doc))
	}
}
