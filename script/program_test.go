package script_test

import (
	"fmt"
	"slices"
	"strings"
	"sync"
	"testing"

	"tmplpipe/api"
	"tmplpipe/dechunk"
	"tmplpipe/escape"
	"tmplpipe/htmlctx"
	"tmplpipe/script"
)

// These tests are about the program as a whole: the promises and the examples of shared/DOC.md.

// answered returns the string of an answer, which is a literal.
func answered(t *testing.T, s *script.Session, line string) string {
	t.Helper()
	v, err := script.Get(s.Do(line))
	if err != api.OK || v.Kind != api.Str {
		t.Fatalf("%s is answered by %.300q", line, s.Do(line))
	}
	return v.S
}

// rendered returns the payload of a driver that is done.
func rendered(t *testing.T, lines ...string) string {
	t.Helper()
	s := session(t, append(lines, "open")...)
	if answer := s.Do("feed" + strings.Repeat(" 999999", 100)); kind(answer) != "done" {
		t.Fatal(answer)
	}
	return answered(t, s, "payload")
}

// TestExamplesOfChunks has the examples 1, 2, 7 and 8.
func TestExamplesOfChunks(t *testing.T) { // P3
	says(t, session(t, `source "abcdefghijklmnopqrstuvwxyz"`, "open"), "feed 4", "error 10 4", "wire", `"1a\x0d\n"`)
	says(t, session(t, `source "abc"`, "size 9 2", "open"), "feed 99 99 99", "done 18", "wire", `"2\x0d\nab\x0d\n1\x0d\nc\x0d\n0\x0d\n\x0d\n"`)
	says(t, session(t, `source "a{{.x}}"`, `data x "<"`, "size 2 99", "open"), "feed 99 99 99 99", "done 25", "report", "calls 4 actions 15 steps 2 chunks 3 flushes 0 pulls x", "wire", `"2\x0d\na&\x0d\n2\x0d\nlt\x0d\n1\x0d\n;\x0d\n0\x0d\n\x0d\n"`)
	for _, lines := range [][]string{{`source "abc"`}, {`source "a{{.x}}b{{flush}}c"`, "data x 7", "size 2 2"}, {`source "{{range .l}}{{.}}{{flush}}{{end}}"`, `data l ["a","<","\n"]`, "size 3 1"}} {
		whole, slow := session(t, append(lines, "open")...), session(t, append(lines, "open")...)
		whole.Do("feed" + strings.Repeat(" 99", 50))
		for range 99 {
			slow.Do("feed 2")
		}
		says(t, slow, "wire", whole.Do("wire"), "payload", whole.Do("payload"), "feed", whole.Do("feed"))
	}
}

// TestExamplesOfContexts has the examples 3, 4, 5 and 6.
func TestExamplesOfContexts(t *testing.T) { // P4
	says(t, session(t, `source "{{.x}}"`, `data x "<"`), "model", `"&lt;" steps 1`)
	says(t, session(t, `source "<a href='{{.x}}'>"`, `data x "<"`), "model", `"<a href='%3C'>" steps 3`)
	says(t, session(t, source(`<a href="{{.u}}">{{.t}}</a>`), `data u "/a?b=<&\" '"`, `data t "/a?b=<&\" '"`), "model", written(str(`<a href="%2Fa%3Fb%3D%3C%26%22%20%27">/a?b=&lt;&amp;&#34; &#39;</a>`))+" steps 5")
	says(t, session(t, `source "{{if .a}}<b {{end}}x"`), "open", "error 16 at 0", "wire", "error 4")
	says(t, session(t, `source "<a {{.x}}>"`), "open", "error 15 at 3", "wire", "error 4")
}

// TestExamplesOfFailures has the examples 9 and 10.
func TestExamplesOfFailures(t *testing.T) { // P5, P6
	says(t, session(t, `source "ab{{.x}}c"`, "open"), "feed 99 99", "error 17 7", "wire", `"2\x0d\nab\x0d\n"`)
	says(t, session(t, `source "a{{flush}}b"`, "open"), "feed 5", "error 10 5", "report", "calls 1 actions 5 steps 2 chunks 1 flushes 0 pulls -", "feed 1", "error 10 6", "wire", `"1\x0d\na\x0d\n"`, "report", "calls 2 actions 11 steps 3 chunks 2 flushes 1 pulls -")
}

// TestNeverPanics has irregular bytes as lines, texts and literals, and lines that make very much of a template.
func TestNeverPanics(t *testing.T) { // P1
	n := numbers(1)
	pieces := append([]string{" ", "\n", "\"", "\\x", "[", "{a:", "]", "}", ",", "-", "9", "\xff", "source ", "data x ", "size ", "{{", "}}", "{{.x}}", "<"}, forms...)
	s := script.New()
	for range 50000 {
		var b strings.Builder
		for range n.below(5) {
			b.WriteString(pieces[n.below(len(pieces))])
		}
		s.Do(b.String())
		script.Run(b.String())
		script.Get(b.String())
	}
	var calls strings.Builder
	for i := range 15 {
		fmt.Fprintf(&calls, "{{define d%d}}{{call d%d}}x{{call d%d}}{{end}}", i, i+1, i+1)
	}
	for _, c := range []struct {
		lines []string
		want  string
	}{
		{[]string{source("{{call d}}{{define d}}{{call d}}{{call d}}{{end}}")}, "error 19"},
		{[]string{source("{{call d0}}" + calls.String() + "{{define d15}}{{end}}")}, "error 14"},
		{[]string{source("{{range .l}}" + strings.Repeat("y", 10000) + "{{end}}"), "data l [" + strings.Repeat("1,", 99) + "1]"}, "error 14"},
		{[]string{source("{{range .l}}{{end}}"), "data l [" + strings.Repeat("1,", 100000) + "1]"}, "error 14"},
		{[]string{source(strings.Repeat("{{if .x}}", 32) + "z" + strings.Repeat("{{end}}", 32)), "data x true"}, "done"},
	} {
		s := session(t, append(c.lines, "open")...)
		answer, model := s.Do("feed"+strings.Repeat(" 9223372036854775807", 5000)), s.Do("model")
		if kind(answer) != c.want || !strings.HasPrefix(model, s.Do("payload")+" steps ") || strings.HasPrefix(c.want, "error ") != strings.HasSuffix(model, " "+c.want) {
			t.Fatalf("%.100q: %s, %.100q", c.lines, answer, model)
		}
	}
}

// TestIndependent executes scripts by several goroutines at a time, each with a session of its own.
func TestIndependent(t *testing.T) { // P2
	n := numbers(5)
	scripts := make([][]string, 40)
	wants := make([][]string, len(scripts))
	for i := range scripts {
		scripts[i] = append(n.configuration(), "model", "open", "feed 3 1 4", "payload", "report", "feed"+strings.Repeat(" 99999", 200), "report", "wire", "clear", "wire")
		wants[i] = answers(script.New(), scripts[i]...)
	}
	var group sync.WaitGroup
	for i := range scripts {
		group.Go(func() {
			for range 5 {
				if got := answers(script.New(), scripts[i]...); !slices.Equal(got, wants[i]) {
					t.Errorf("%q, want %q", got, wants[i])
				}
			}
		})
	}
	group.Wait()
}

// cut is a template in parts, between which there are flushes, with data and the output of each part.
type cut struct {
	data, parts, outputs []string
}

func cuts() []cut {
	return []cut{
		{nil, []string{""}, []string{""}},
		{nil, []string{"abcdefg"}, []string{"abcdefg"}},
		{[]string{`data x "<"`}, []string{"a{{.x}}", "", "bc{{.x}}{{.x}}", "d"}, []string{"a&lt;", "", "bc&lt;&lt;", "d"}},
		{[]string{"data l [1,23,456]", `data u "a&b"`}, []string{"{{range .l}}{{.}};{{end}}", `<a href="{{.u}}">`, "\r\n{{.u}}"}, []string{"1;23;456;", `<a href="a%26b">`, "\r\na&amp;b"}},
	}
}

// encoding is the body for the output of parts, in chunks of at most most bytes.
func (c cut) encoding(most int) string {
	var b strings.Builder
	for _, output := range c.outputs {
		for chunk := range slices.Chunk([]byte(output), most) {
			fmt.Fprintf(&b, "%x\r\n%s\r\n", len(chunk), chunk)
		}
	}
	return b.String() + "0\r\n\r\n"
}

// TestPrefixes has all schedules of up to some outcomes, and then all the rest: what is delivered is always a prefix of the
// encoding, and all of it exactly if the driver is done.
func TestPrefixes(t *testing.T) { // P3, P5
	for _, c := range cuts() {
		for _, size := range [][2]int{{1, 1}, {3, 2}, {2, 5}, {9, 9}, {4, 100}, {100, 100}} {
			lines := append(slices.Clone(c.data), source(strings.Join(c.parts, "{{flush}}")), fmt.Sprint("size ", size[0], " ", size[1]), "open")
			body := c.encoding(min(size[0], size[1]))
			checked := func(s *script.Session, answer string) string {
				t.Helper()
				wire := answered(t, s, "wire")
				if !strings.HasPrefix(body, wire) || (wire == body) != (kind(answer) == "done") {
					t.Fatalf("%q %d: %q, %s, of %q", c.parts, size, wire, answer, body)
				}
				return wire
			}
			var more func(feeds []string, left int)
			more = func(feeds []string, left int) {
				s := session(t, lines...)
				wire, failed := "", false
				for _, fed := range feeds {
					answer := s.Do(fed)
					if got := checked(s, answer); failed && got != wire {
						t.Fatalf("%q: %q, then %q", feeds, wire, got)
					} else {
						wire, failed = got, kind(answer) == "error 9"
					}
				}
				answer := s.Do("feed" + strings.Repeat(" 99999", 200))
				if got := checked(s, answer); failed && (got != wire || answer != fmt.Sprint("error 9 ", len(wire))) || !failed && got != body {
					t.Fatalf("%q: %s, %q, then %q", feeds, answer, wire, got)
				}
				if left > 0 {
					for _, fed := range []string{"feed -1", "feed 0", "feed 1", "feed 2 5", "feed 30 -7"} {
						more(append(feeds[:len(feeds):len(feeds)], fed), left-1)
					}
				}
			}
			more(nil, 3)
		}
	}
}

// contexts are the beginnings and the ends of templates, between which a value is in one context, with its escaper.
func contexts() []struct {
	before, after string
	esc           int
} {
	return []struct {
		before, after string
		esc           int
	}{
		{"", "", api.EscText}, {"<p>", "</p>", api.EscText}, {"a&", ";", api.EscText}, {"<textarea>", "</textarea>", api.EscText}, {"<!-- x -->", "<br>", api.EscText},
		{`<p title="`, `">`, api.EscAttr}, {"<p title='", "'>", api.EscAttr}, {`<p title="a`, `b" id='c'>`, api.EscAttr},
		{`<a href="`, `">`, api.EscURL}, {"<a href='/x?", "'>", api.EscURL}, {`<img src="`, `">`, api.EscURL},
		{"<script>x = '", "';</script>", api.EscJS}, {`<script>"`, `"</script>`, api.EscJS}, {"<style>p { x: '", "' }</style>", api.EscCSS}, {`<style>"`, `"</style>`, api.EscCSS},
	}
}

// TestEscaped has values in all contexts, which they do not change.
func TestEscaped(t *testing.T) { // P4
	values := []string{"", "plain", "<script>alert(1)</script>", `"><b x="`, "'><b x='", "</textarea>", "</style></script>", "-->", "<!--", "\\", "\\\\'", "\\\"", "a\nb", "javascript:x", "&amp;", "&", "%", "*/", "//", "\u2028", "\xff", "\xe2\x82", "${x}", "`", "]]>"}
	for c := range 256 {
		values = append(values, string([]byte{byte(c)}), "a"+string([]byte{byte(c)})+"b", "\\"+string([]byte{byte(c)}))
	}
	for _, c := range contexts() {
		state := htmlctx.Run(htmlctx.State{}, c.before)
		if esc, ok := htmlctx.Escaper(state); esc != c.esc || !ok {
			t.Fatalf("%q: %d, %v", c.before, esc, ok)
		}
		for _, v := range values {
			want, _ := escape.Escape(c.esc, v)
			if got := rendered(t, source(c.before+"{{.x}}"+c.after), "data x "+written(str(v))); got != c.before+want+c.after {
				t.Fatalf("%q for %q in %q, want %q", got, v, c.before, want)
			}
			if htmlctx.Run(state, want) != state || strings.ContainsAny(want, "<>\"'") {
				t.Fatalf("%q for %q in %q", want, v, c.before)
			}
		}
	}
}

// TestAmbiguous has templates that are rejected, since a context is none for values, or depends on a branch or on the number
// of iterations. Nothing is delivered for them.
func TestAmbiguous(t *testing.T) { // P4
	for _, c := range []struct{ src, want string }{
		{"ok<{{.x}}>", "error 15 at 3"}, {"<a{{.x}}>", "error 15 at 2"}, {"<a href={{.x}}>", "error 15 at 8"}, {`<a onclick="{{.x}}">`, "error 15 at 12"}, {"<p style='{{.x}}'>", "error 15 at 10"}, {"<script>{{.x}}</script>", "error 15 at 8"}, {"<style>{{.x}}</style>", "error 15 at 7"}, {"<!-- {{.x}} -->", "error 15 at 5"},
		{"{{if .x}}<a href='{{else}}<a title='{{end}}{{.x}}'>", "error 16 at 0"}, {"<script>{{if .x}}'{{end}}", "error 16 at 8"}, {"a{{range .x}}<{{end}}", "error 16 at 1"}, {"{{range .x}}<a title='{{end}}", "error 16 at 0"}, {"<p title={{if .x}}'a'{{else}}\"b\"{{end}} x='", "error 16 at 39"},
	} {
		s := session(t, source(c.src), "data x 1")
		says(t, s, "open", c.want, "feed 99 99 99", "error 4", "wire", "error 4", "payload", "error 4", "report", "error 4", "model", c.want)
	}
}

// TestFailuresOfData has templates that fail behind some output, which is delivered in complete chunks, without the last one.
func TestFailuresOfData(t *testing.T) { // P5
	for _, src := range []string{"{{.x}}", "abc{{.x}}d", "a{{flush}}bcdefg{{.l.x}}", "{{range .l}}{{.}}{{flush}}{{.x}}{{end}}", "a{{call f}}{{define f}}b{{call f}}{{end}}", "abc{{.l}}{{flush}}", "ab{{flush}}{{.bad}}"} {
		for _, size := range []string{"1 1", "3 2", "2 9", "100 100"} {
			for _, fed := range []string{"feed 1", "feed 0 7", "feed 99 99 99 99"} {
				s := session(t, source(src), "data l [1,2]", "fail bad", "size "+size, "open")
				answer := s.Do(fed)
				for ; kind(answer) == "error 10"; answer = s.Do(fed) {
				}
				wire, decoder := answered(t, s, "wire"), dechunk.New()
				if err := decoder.Feed([]byte(wire)); err != api.OK || !decoder.Whole() || decoder.Complete() {
					t.Fatalf("%q, %s: %q", src, size, wire)
				}
				if model := s.Do("model"); !strings.HasPrefix(model, written(str(string(decoder.Payload())))+" steps ") || !strings.HasSuffix(model, " "+kind(answer)) {
					t.Fatalf("%q, %s: %q, %s, %s", src, size, wire, answer, model)
				}
				says(t, s, "feed", answer, "feed 99 99", answer, "feed -1", answer, "wire", written(str(wire)))
			}
		}
	}
}

// TestFlushes delivers byte by byte: what is behind a flush is evaluated only when all before it is in complete chunks.
func TestFlushes(t *testing.T) { // P6, P7
	parts := []string{"1\r\na\r\n", "1\r\n5\r\n", "3\r\n&lt\r\n1\r\n;\r\n", "", "2\r\nzz\r\n"}
	pulls := []string{"-", "p", "p,q", "p,q,r", "p,q,r,s"}
	s := session(t, `source "a{{flush}}{{.p}}{{flush}}{{.q}}{{flush}}{{if .r}}{{end}}{{flush}}{{.s}}{{flush}}{{.t}}"`, "data p 5", `data q "<"`, "data r true", `data s "zz"`, "data t 1", "size 3 3", "open")
	says(t, s, "feed", "error 10 0")
	for i, part := range parts {
		for j := range len(part) {
			words := strings.Fields(s.Do("report"))
			if want := pulls[i]; words[11] != want {
				t.Fatalf("%d bytes of part %d: %q pulled, want %s", j, i, words[11], want)
			}
			s.Do("feed 1")
		}
	}
	says(t, s, "wire", written(str(strings.Join(parts, ""))))
	if words := strings.Fields(s.Do("report")); words[11] != "p,q,r,s,t" || words[9] != "5" {
		t.Error(words)
	}
}

// TestBoundedMemory has a loop of many values: never is much more evaluated than what has been delivered.
func TestBoundedMemory(t *testing.T) { // P7
	for _, size := range [][2]int{{1, 1}, {5, 3}, {3, 9}, {50, 50}} {
		s := session(t, source("{{range .l}}{{.}}{{end}}"), "data l ["+strings.Repeat("7,", 4999)+"8]", fmt.Sprint("size ", size[0], " ", size[1]), "open")
		for answer := s.Do("feed"); kind(answer) == "error 10"; answer = s.Do("feed 1 2 40 7 9 1 30 2 8") {
			var steps int
			fmt.Sscan(strings.Fields(s.Do("report"))[5], &steps)
			// Each value has two steps and a byte, and the one of the last step is not in the ring buffer.
			if delivered := len(answered(t, s, "payload")); steps/2-delivered > size[0]+min(size[0], size[1])+1 {
				t.Fatalf("%d steps, %d bytes", steps, delivered)
			}
		}
		if payload := answered(t, s, "payload"); len(payload) != 5000 || payload[4999] != '8' {
			t.Errorf("%d bytes", len(payload))
		}
	}
}

// TestPulledOnce has names that are read again and again, and names that are not read.
func TestPulledOnce(t *testing.T) { // P7
	lines := []string{`source "{{.a}}{{.b}}{{.a}}{{range .l}}{{.x}}{{end}}{{if .c}}{{.a}}{{.d}}{{else}}{{.e}}{{end}}{{.b}}{{call f}}{{define f}}{{.a}}{{.g.h}}{{end}}"`, "data d 1", "data a 2", "data b 3", "data c false", "data e 4", "data g {h:5}", "data l [{x:1},{x:2}]", "data unread 1"}
	s := session(t, append(lines, "size 1 1", "open")...)
	want, last := "a,b,l,c,e,g", "-"
	for answer := s.Do("feed"); kind(answer) == "error 10"; answer = s.Do("feed 1") {
		pulls := strings.Fields(s.Do("report"))[11]
		if !strings.HasPrefix(want, pulls) || last != "-" && !strings.HasPrefix(pulls, last) {
			t.Fatalf("%s, then %s", last, pulls)
		}
		last = pulls
	}
	if pulls := strings.Fields(s.Do("report"))[11]; pulls != want {
		t.Error(pulls)
	}
	if payload := answered(t, s, "payload"); payload != rendered(t, lines...) || payload != "232124325" {
		t.Error(payload)
	}
}
