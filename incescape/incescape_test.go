package incescape_test

import (
	"bytes"
	"math"
	"slices"
	"strings"
	"testing"
	"unicode/utf8"

	"tmplpipe/api"
	"tmplpipe/escape"
	"tmplpipe/incescape"
)

const (
	encodedWrong = "\xef\xbf\xbd" // the encoding of U+FFFD
	wrongInURL   = "%EF%BF%BD"    // its escaped form for a URL
)

var escapers = []int{api.EscText, api.EscAttr, api.EscURL, api.EscJS, api.EscCSS}

// wrongs are the escaped forms of U+FFFD, by the escaper.
var wrongs = []string{encodedWrong, encodedWrong, wrongInURL, encodedWrong, encodedWrong}

// sizes are permitted arguments of Next, of which the first ones deliver nothing.
var sizes = []int{math.MinInt, math.MinInt + 1, math.MinInt32, -2, -1, 0, 1, 2, 3, 4, 5, 9, 100, math.MaxInt32,
	1 << 32, math.MaxInt - 1, math.MaxInt}

// isBeginning reports whether s is a proper prefix of the encoding of a rune, but not empty.
func isBeginning(s string) bool {
	if s == "" || utf8.ValidString(s) {
		return false
	}
	// An encoding that continues s in some way also does so with these bytes.
	for _, rest := range []string{"\x80", "\xa0", "\x80\x80", "\xa0\x80", "\x80\x80\x80", "\xa0\x80\x80"} {
		if utf8.ValidString(s+rest) && utf8.RuneCountInString(s+rest) == 1 {
			return true
		}
	}
	return false
}

// held says how many bytes of an input that has not ended the chapter excludes from the output.
func held(s string) int {
	for n := min(3, len(s)); n > 0; n-- {
		if isBeginning(s[len(s)-n:]) {
			return n
		}
	}
	return 0
}

// whole returns the escaped form of a string.
func whole(t *testing.T, esc int, s string) string {
	w, err := escape.Escape(esc, s)
	if err != api.OK {
		t.Helper()
		t.Fatalf("Escape(%d, %.40q): %v", esc, s, err)
	}
	return w
}

// pair is an escaper with a description of what it has to do.
type pair struct {
	e         *incescape.Escaper
	esc       int
	input     string
	closed    bool
	output    string // as far as it follows from the input
	delivered int
}

func start(t *testing.T, esc int) *pair {
	e, err := incescape.New(esc)
	if e == nil || err != api.OK {
		t.Helper()
		t.Fatalf("New(%d) = %v, %v", esc, e, err)
	}
	p := &pair{e: e, esc: esc}
	p.check(t)
	return p
}

// check compares Ready and Done with the description.
func (p *pair) check(t *testing.T) {
	ready := len(p.output) - p.delivered
	done := p.closed && ready == 0
	if p.e.Ready() != ready || p.e.Done() != done {
		t.Helper()
		t.Fatalf("escaper %d, input %.60q, closed: %v, %d of %.60q delivered: Ready() = %d, Done() = %v; want %d, %v",
			p.esc, p.input, p.closed, p.delivered, p.output, p.e.Ready(), p.e.Done(), ready, done)
	}
}

// update finds the output that follows from the input.
func (p *pair) update(t *testing.T) {
	known := len(p.input)
	if !p.closed {
		known -= held(p.input)
	}
	p.output = whole(t, p.esc, p.input[:known])
}

func (p *pair) write(t *testing.T, s string) {
	want := api.OK
	if p.closed {
		want = api.ErrState
	} else {
		p.input += s
	}
	if err := p.e.Write([]byte(s)); err != want {
		t.Helper()
		t.Fatalf("escaper %d, input %.60q, closed: %v: Write(%.40q) = %v", p.esc, p.input, p.closed, s, err)
	}
	p.update(t)
	p.check(t)
}

func (p *pair) close(t *testing.T) {
	want := api.OK
	if p.closed {
		want = api.ErrState
	}
	if err := p.e.Close(); err != want {
		t.Helper()
		t.Fatalf("escaper %d, input %.60q, closed: %v: Close() = %v", p.esc, p.input, p.closed, err)
	}
	p.closed = true
	p.update(t)
	p.check(t)
}

func (p *pair) next(t *testing.T, n int) {
	rest := p.output[p.delivered:]
	rest = rest[:max(0, min(n, len(rest)))]
	if b := p.e.Next(n); string(b) != rest {
		t.Helper()
		t.Fatalf("escaper %d, input %.60q, %d delivered: Next(%d) = %.60q; want %.60q", p.esc, p.input, p.delivered, n, b, rest)
	}
	p.delivered += len(rest)
	p.check(t)
}

// finish closes the input, takes the rest of the output in pieces of n bytes and compares all of it with Escape.
func (p *pair) finish(t *testing.T, n int) {
	if !p.closed {
		p.close(t)
	}
	for p.delivered < len(p.output) {
		p.next(t, n)
	}
	p.next(t, n)
	if want := whole(t, p.esc, p.input); p.output[:p.delivered] != want || !p.e.Done() {
		t.Helper()
		t.Fatalf("escaper %d, input %.60q: %.60q delivered, done: %v; want %.60q", p.esc, p.input, p.output, p.e.Done(), want)
	}
}

// take writes the pieces, with what is taken by then after each of them, and returns all that is delivered.
func take(t *testing.T, esc int, pieces []string, n int) string {
	t.Helper()
	e, err := incescape.New(esc)
	if err != api.OK {
		t.Fatal(err)
	}
	var all []byte
	for _, s := range pieces {
		if err := e.Write([]byte(s)); err != api.OK {
			t.Fatal(err)
		}
		all = append(all, e.Next(n)...)
	}
	if err := e.Close(); err != api.OK {
		t.Fatal(err)
	}
	for !e.Done() {
		b := e.Next(n)
		if len(b) == 0 || len(b) > n {
			t.Fatalf("Next(%d) has %d bytes, but the escaper is not done", n, len(b))
		}
		all = append(all, b...)
	}
	return string(all)
}

// delivers compares all that is delivered with what is wanted, which is written down.
func delivers(t *testing.T, esc int, want string, pieces ...string) {
	t.Helper()
	for _, n := range []int{1, 2, 3, math.MaxInt} {
		if got := take(t, esc, pieces, n); got != want {
			t.Fatalf("escaper %d delivers %.60q for %.40q in pieces of %d; want %.60q", esc, got, pieces, n, want)
		}
	}
	if got := whole(t, esc, strings.Join(pieces, "")); got != want {
		t.Fatalf("Escape(%d) of %.40q is %.60q; want %.60q", esc, pieces, got, want)
	}
}

// boundaries are encodings of each length, with the first and the last of each.
var boundaries = []string{
	"\x00", "a", "<", "\x7f",
	"\xc2\x80", "\xc3\xa4", "\xdf\xbf",
	"\xe0\xa0\x80", "\xe2\x80\xa8", "\xe2\x82\xac", "\xed\x9f\xbf", "\xee\x80\x80", "\xef\xbf\xbd", "\xef\xbf\xbf",
	"\xf0\x90\x80\x80", "\xf0\x9f\x98\x80", "\xf4\x8f\xbf\xbf",
}

// invalid are strings of which every byte is decoded as U+FFFD.
var invalid = []string{
	"\x80", "\xbf", "\x80\x80\x80\x80", // continuation bytes alone
	"\xc0", "\xc1", "\xf5", "\xf8", "\xfe", "\xff", "\xff\xff", // bytes that begin no encoding
	"\xc0\x80", "\xc1\xbf", "\xe0\x80\x80", "\xe0\x9f\xbf", "\xf0\x80\x80\x80", "\xf0\x8f\xbf\xbf", // too long
	"\xed\xa0\x80", "\xed\xaf\xbf", "\xed\xbf\xbf", "\xed\xa0\xbd\xed\xb8\x80", // surrogates
	"\xf4\x90\x80\x80", "\xf5\x80\x80\x80", "\xf7\xbf\xbf\xbf", "\xf8\x88\x80\x80\x80", // too great
	"\xc2", "\xe2", "\xe2\x82", "\xf0", "\xf0\x9f", "\xf0\x9f\x98", "\xf4\x8f\xbf", "\xef\xbf", // cut off
	"\xe2\xe2", "\xe2\x82\xe2\x82", "\xf0\x9f\x98\xf0\x9f\x98", "\xf0\x9f\xf0\xc3", "\xc3\xc3\xc3", // each cut off
}

// samples have characters that some escapers change, encodings of each length, and bytes that belong to none.
var samples = []string{
	"", "a", "<", "\x00", "a<", "a<b", "<<>>", "a b", "&amp;", "&#34;", "%3C", "\\u003c", "\\3c ", "\"'`=/", "\u2028",
	"\x7f\x1f !\"#$%&'()*+,-./:;<=>?@[\\]^_`{|}~", "</script>", "url(/a;b:c){}", "\r\n\t\v",
	"\u00e4\u20ac\U0001f600x", "x\U0001f600\u20ac\u00e4<", "\ufeff\ufffd\uffff\U0010ffff",
	"a\xff<\xe2\x82", "\xe2\x80\xa8\xe2\x80", "\xe2\x82\xe2\x82\xac\xf0\x9f\x98\xf0\x9f\x98\x80", "\xc3<\xe2\x82&\xf0\x9f\x98>",
	"\xf0\x9f\x98", "\xed\xa0\x80\xed\x9f\xbf\xf4\x90\x80\x80\xf4\x8f\xbf\xbf",
}

func TestExamples(t *testing.T) { // P8.2, P8.3
	e, err := incescape.New(api.EscText)
	if err != api.OK || e.Write([]byte("a<")) != api.OK || e.Ready() != 5 {
		t.Fatalf("%v; Ready() = %d after Write of a<", err, e.Ready())
	}
	if b := e.Next(2); string(b) != "a&" || e.Ready() != 3 {
		t.Fatalf("Next(2) = %q, then Ready() = %d", b, e.Ready())
	}
}

func TestNew(t *testing.T) { // P8.1
	for _, esc := range escapers {
		start(t, esc).finish(t, 1)
		start(t, esc).next(t, 1)
	}
}

func TestNoEscaper(t *testing.T) { // P8.1
	for _, esc := range []int{-1, -2, -5, math.MinInt, math.MinInt + 1, math.MinInt32, -1 << 8, 5, 6, 7, 255, 256, 260, 1 << 16,
		math.MaxInt32, 1 << 32, 1<<32 + 4, math.MaxInt - 1, math.MaxInt} {
		if e, err := incescape.New(esc); e != nil || err != api.ErrArg {
			t.Fatalf("New(%d) = %v, %v", esc, e, err)
		}
	}
}

func TestNilEscaper(t *testing.T) { // P8.1 to P8.3: the sentence below the function list
	var e *incescape.Escaper
	for range 2 {
		for _, s := range slices.Concat(samples, invalid) {
			if err := e.Write([]byte(s)); err != api.ErrNil {
				t.Fatalf("Write(%q) = %v", s, err)
			}
		}
		if err := e.Write(nil); err != api.ErrNil {
			t.Fatalf("Write(nil) = %v", err)
		}
		for _, n := range sizes {
			if b := e.Next(n); len(b) != 0 {
				t.Fatalf("Next(%d) = %q", n, b)
			}
		}
		if e.Ready() != 0 || e.Done() {
			t.Fatalf("Ready() = %d, Done() = %v", e.Ready(), e.Done())
		}
		if err := e.Close(); err != api.ErrNil {
			t.Fatalf("Close() = %v", err)
		}
	}
}

// TestWrittenDown has the escaped forms of pieces for each escaper.
func TestWrittenDown(t *testing.T) { // P8.1, P8.2, P8.4
	pieces := []string{"a<", "", "&\"\x00", "\xe2", "\x82\xac", "\xf0\x9f", "'", "\u00e4=\xff", "/\xf0\x9f\x98"}
	for esc, want := range []string{
		"a&lt;&amp;&#34;\ufffd\u20ac\ufffd\ufffd&#39;\u00e4=\ufffd/\ufffd\ufffd\ufffd",
		"a&lt;&amp;&#34;\ufffd\u20ac\ufffd\ufffd&#39;\u00e4&#61;\ufffd/\ufffd\ufffd\ufffd",
		"a%3C%26%22%00%E2%82%AC" + wrongInURL + wrongInURL + "%27%C3%A4%3D" + wrongInURL + "%2F" + wrongInURL + wrongInURL + wrongInURL,
		"a\\u003c\\u0026\\u0022\\u0000\u20ac\ufffd\ufffd\\u0027\u00e4\\u003d\ufffd\\u002f\ufffd\ufffd\ufffd",
		"a\\3c \\26 \\22 \ufffd\u20ac\ufffd\ufffd\\27 \u00e4=\ufffd\\2f \ufffd\ufffd\ufffd",
	} {
		delivers(t, esc, want, pieces...)
		delivers(t, esc, want, strings.Join(pieces, ""))
		delivers(t, esc, "")
		delivers(t, esc, "", "", "")
		delivers(t, esc, "abc", "a", "", "bc")
	}
}

// TestReadyAfterEachCall writes down what Ready returns.
func TestReadyAfterEachCall(t *testing.T) { // P8.2, P8.3
	steps := []struct {
		call func(p *pair)
		want [api.Escs]int
	}{
		{func(p *pair) {}, [api.Escs]int{0, 0, 0, 0, 0}},
		{func(p *pair) { p.write(t, "a<") }, [api.Escs]int{5, 5, 4, 7, 5}},
		{func(p *pair) { p.write(t, "\xf0\x9f\x98") }, [api.Escs]int{5, 5, 4, 7, 5}},
		{func(p *pair) { p.next(t, 3) }, [api.Escs]int{2, 2, 1, 4, 2}},
		{func(p *pair) { p.write(t, "\x80") }, [api.Escs]int{6, 6, 13, 8, 6}},
		{func(p *pair) { p.write(t, "") }, [api.Escs]int{6, 6, 13, 8, 6}},
		{func(p *pair) { p.write(t, "\xe2\x80") }, [api.Escs]int{6, 6, 13, 8, 6}},
		{func(p *pair) { p.next(t, -1) }, [api.Escs]int{6, 6, 13, 8, 6}},
		{func(p *pair) { p.next(t, 100) }, [api.Escs]int{0, 0, 0, 0, 0}},
		{func(p *pair) { p.close(t) }, [api.Escs]int{6, 6, 18, 6, 6}},
		{func(p *pair) { p.write(t, "a") }, [api.Escs]int{6, 6, 18, 6, 6}},
		{func(p *pair) { p.next(t, 1) }, [api.Escs]int{5, 5, 17, 5, 5}},
		{func(p *pair) { p.close(t) }, [api.Escs]int{5, 5, 17, 5, 5}},
		{func(p *pair) { p.next(t, math.MaxInt) }, [api.Escs]int{0, 0, 0, 0, 0}},
	}
	for _, esc := range escapers {
		p := start(t, esc)
		for i, step := range steps {
			step.call(p)
			if got := p.e.Ready(); got != step.want[esc] {
				t.Fatalf("escaper %d, step %d: Ready() = %d; want %d", esc, i, got, step.want[esc])
			}
		}
		p.finish(t, 1)
	}
}

// TestWriteOfNoBytes also has them while bytes are held back.
func TestWriteOfNoBytes(t *testing.T) { // P8.1
	for _, esc := range escapers {
		for _, nothing := range [][]byte{nil, {}, []byte("<a")[:0]} {
			p := start(t, esc)
			for _, s := range []string{"", "<", "a\xe2", "\x82", "\xac", "\xf0\x9f\x98", "<"} {
				p.write(t, s)
				if err := p.e.Write(nothing); err != api.OK {
					t.Fatalf("Write of no bytes: %v", err)
				}
				p.check(t)
				p.next(t, 2)
			}
			p.close(t)
			if err := p.e.Write(nothing); err != api.ErrState {
				t.Fatalf("Write of no bytes after Close: %v", err)
			}
			p.finish(t, 2)
		}
	}
}

func TestCloseWithoutInput(t *testing.T) { // P8.1, P8.3
	for _, esc := range escapers {
		for _, n := range sizes {
			p := start(t, esc)
			p.next(t, n)
			p.close(t)
			if !p.e.Done() || p.e.Ready() != 0 {
				t.Fatalf("escaper %d: Done() = %v, Ready() = %d", esc, p.e.Done(), p.e.Ready())
			}
			p.next(t, n)
			p.write(t, "<")
			p.close(t)
			p.finish(t, 1)
		}
	}
}

// TestAfterClose has calls after Close, with all, some and none of the output left.
func TestAfterClose(t *testing.T) { // P8.1, P8.3
	for _, esc := range escapers {
		for _, s := range slices.Concat(samples, invalid, boundaries) {
			for n := range 12 {
				p := start(t, esc)
				p.write(t, s)
				p.close(t)
				p.next(t, n)
				for _, more := range []string{"a", "", "<", "\x80", "\xe2"} {
					p.write(t, more)
					p.close(t)
				}
				p.next(t, 1)
				p.write(t, "a")
				p.close(t)
				p.finish(t, 3)
				p.write(t, "a")
				p.close(t)
				p.finish(t, 3)
			}
		}
	}
}

// TestHeldBytes writes down how many bytes are held back and what they lead to.
func TestHeldBytes(t *testing.T) { // P8.2
	for esc, wrong := range wrongs {
		for _, c := range boundaries {
			form := whole(t, esc, c)
			for i := 1; i < len(c); i++ {
				for _, before := range []string{"", "a", "\xff", "\xe2\x82", "\u20ac"} {
					known := len(whole(t, esc, before))
					p := start(t, esc)
					p.write(t, before+c[:i])
					if got := p.e.Ready(); got != known {
						t.Fatalf("escaper %d: Ready() = %d after Write of %q; want %d", esc, got, before+c[:i], known)
					}
					p.next(t, math.MaxInt)
					ends(t, p, i, c, form, wrong)
				}
			}
		}
	}
}

// ends lets the input end after i bytes of c, which p holds back, with another escaper, and gives p the rest of c.
func ends(t *testing.T, p *pair, i int, c, form, wrong string) {
	t.Helper()
	q := start(t, p.esc)
	q.write(t, p.input)
	q.next(t, math.MaxInt)
	q.close(t)
	if got := string(q.e.Next(math.MaxInt)); got != strings.Repeat(wrong, i) {
		t.Fatalf("escaper %d: Close after %q leads to %q", p.esc, p.input, got)
	}
	for _, b := range []byte(c[i : len(c)-1]) {
		p.write(t, string([]byte{b}))
		if got := p.e.Ready(); got != 0 {
			t.Fatalf("escaper %d: Ready() = %d in the middle of %q", p.esc, got, c)
		}
	}
	p.write(t, c[len(c)-1:])
	if got := string(p.e.Next(math.MaxInt)); got != form {
		t.Fatalf("escaper %d: %q leads to %q; want %q", p.esc, c, got, form)
	}
	p.delivered = len(p.output)
	p.finish(t, 1)
}

// TestHeldBytesThatBelongToNoEncoding has bytes behind held bytes that do not continue them.
func TestHeldBytesThatBelongToNoEncoding(t *testing.T) { // P8.2, P8.4
	for esc, wrong := range wrongs {
		for _, c := range boundaries {
			for i := 1; i < len(c); i++ {
				for _, next := range []string{"a", "<", "\xff", "\xc0", "\u00e4", "\u20ac", "\U0001f600"} {
					p := start(t, esc)
					p.write(t, c[:i])
					p.write(t, next)
					if got, want := string(p.e.Next(math.MaxInt)), strings.Repeat(wrong, i)+whole(t, esc, next); got != want {
						t.Fatalf("escaper %d: %q, then %q leads to %q; want %q", esc, c[:i], next, got, want)
					}
				}
			}
		}
	}
	p := start(t, api.EscText)
	p.write(t, "\xe0")
	p.write(t, "\x80") // no encoding begins so
	if got := string(p.e.Next(math.MaxInt)); got != encodedWrong+encodedWrong {
		t.Fatalf("%q", got)
	}
}

// TestNext has each number in each state.
func TestNext(t *testing.T) { // P8.3
	for _, esc := range escapers {
		for _, s := range samples {
			output := len(whole(t, esc, s))
			for _, n := range append([]int{output - 2, output - 1, output, output + 1}, sizes...) {
				p := start(t, esc)
				p.next(t, n)
				p.write(t, s)
				p.next(t, n)
				p.next(t, n)
				p.close(t)
				p.next(t, n)
				p.next(t, p.e.Ready()-1)
				p.next(t, p.e.Ready())
				p.next(t, n)
				p.finish(t, 1)

				p = start(t, esc)
				p.write(t, s)
				p.close(t)
				p.next(t, n)
				p.finish(t, max(1, n))
			}
		}
	}
}

func TestDone(t *testing.T) { // P8.3
	e, _ := incescape.New(api.EscText)
	done := func(want bool) {
		t.Helper()
		if e.Done() != want {
			t.Fatalf("Done() = %v", !want)
		}
	}
	done(false)
	e.Write([]byte("a<"))
	done(false)
	e.Next(5)
	done(false) // nothing is left, but the input has not ended
	e.Write([]byte("\xc3"))
	done(false)
	e.Close()
	done(false)
	e.Next(2)
	done(false)
	e.Next(0)
	done(false)
	e.Next(1)
	done(true)
	e.Next(1)
	e.Write([]byte("a"))
	e.Close()
	done(true)
}

// TestSequencesOfCalls has all sequences of five of these calls.
func TestSequencesOfCalls(t *testing.T) { // P8.1 to P8.4
	calls := []func(p *pair){
		func(p *pair) { p.write(t, "") },
		func(p *pair) { p.write(t, "a<") },
		func(p *pair) { p.write(t, "\xe2") },
		func(p *pair) { p.write(t, "\x82") },
		func(p *pair) { p.write(t, "\x80&\xf0\x9f") },
		func(p *pair) { p.close(t) },
		func(p *pair) { p.next(t, -1) },
		func(p *pair) { p.next(t, 1) },
		func(p *pair) { p.next(t, 4) },
		func(p *pair) { p.next(t, math.MaxInt) },
	}
	for _, esc := range escapers {
		for sequence := range 100000 {
			p := start(t, esc)
			for rest := 100000 + sequence; rest > 1; rest /= 10 {
				calls[rest%10](p)
			}
			p.finish(t, 2)
		}
	}
}

// TestSplits splits strings into up to three pieces at each place.
func TestSplits(t *testing.T) { // P8.2, P8.4
	for _, esc := range escapers {
		for _, s := range slices.Concat(samples, invalid, boundaries, slices.Collect(between())) {
			want := whole(t, esc, s)
			for i := range len(s) + 1 {
				for j := i; j <= len(s); j++ {
					n := 1 + (i+j)%4
					if got := take(t, esc, []string{s[:i], s[i:j], s[j:]}, n); got != want {
						t.Fatalf("escaper %d delivers %q for %q split at %d and %d, in pieces of %d", esc, got, s, i, j, n)
					}
					if j-i > 3 {
						continue
					}
					p := start(t, esc)
					p.write(t, s[:i])
					p.next(t, n)
					p.write(t, s[i:j])
					p.next(t, n)
					p.write(t, s[j:])
					p.finish(t, n)
				}
			}
		}
	}
}

// between yields invalid strings between encodings.
func between() func(yield func(string) bool) {
	return func(yield func(string) bool) {
		for i, s := range invalid {
			a := boundaries[i%len(boundaries)]
			if !yield(a+s) || !yield(s+a) || !yield(s+s+"<") {
				return
			}
		}
	}
}

// TestEachSizeOfPieces has pieces of each size for the input and for the output.
func TestEachSizeOfPieces(t *testing.T) { // P8.4
	s := strings.Join(slices.Concat(samples, invalid, boundaries), "")
	for _, esc := range escapers {
		want := whole(t, esc, s)
		for size := 1; size <= len(s); size += 1 + size/20 {
			pieces := []string{}
			for rest := s; rest != ""; {
				n := min(size, len(rest))
				pieces, rest = append(pieces, rest[:n]), rest[n:]
			}
			for _, n := range []int{1, 2, 3, 7, size, len(want) - 1, len(want), len(want) + 1} {
				if got := take(t, esc, pieces, n); got != want {
					t.Fatalf("escaper %d, pieces of %d and of %d: %q is delivered", esc, size, n, got)
				}
			}
		}
	}
}

// TestTwoBytes has all strings of two bytes, one byte after the other.
func TestTwoBytes(t *testing.T) { // P8.2, P8.4
	for _, esc := range escapers {
		for i := range 1 << 16 {
			p := start(t, esc)
			p.write(t, string([]byte{byte(i >> 8)}))
			p.write(t, string([]byte{byte(i)}))
			p.finish(t, 3)
		}
	}
}

func TestRandomCalls(t *testing.T) { // P8.1 to P8.4
	pieces := slices.Concat(samples, invalid, boundaries, []string{"\x80", "\x82", "\xac", "\xe2", "\xf0", "\x9f", "a", "<"})
	seed := uint32(8)
	random := func(n int) int {
		seed = seed*1664525 + 1013904223
		return int(seed>>8) % n
	}
	for i := range 4000 {
		p := start(t, escapers[i%len(escapers)])
		for range random(12) {
			if random(3) == 0 {
				p.next(t, random(20)-2)
				continue
			}
			s := pieces[random(len(pieces))]
			n := random(len(s) + 1)
			p.write(t, s[:n])
			p.write(t, s[n:])
		}
		p.finish(t, 1+random(9))
	}
}

// TestArgumentOfWrite changes arguments after the call and has bytes behind their ends.
func TestArgumentOfWrite(t *testing.T) { // P8.1: rule 4
	for _, esc := range escapers {
		for _, s := range slices.Concat(samples, invalid, boundaries) {
			p := start(t, esc)
			for i := range len(s) + 1 {
				start := min(i*2, len(s))
				piece := s[start:min(start+2, len(s))]
				b := []byte(piece + "\x80\xbf<")
				before := bytes.Clone(b)
				if err := p.e.Write(b[:len(piece)]); err != api.OK {
					t.Fatal(err)
				}
				if !bytes.Equal(b, before) {
					t.Fatalf("Write of %q changes it to %q", before, b)
				}
				for i := range b {
					b[i] = '&'
				}
				p.input += piece
				p.update(t)
				p.check(t)
			}
			p.finish(t, 2)
		}
	}
}

// TestResultOfNext changes results and the memory behind them.
func TestResultOfNext(t *testing.T) { // P8.3: rule 4
	for _, esc := range escapers {
		for _, s := range slices.Concat(samples, invalid, boundaries) {
			for n := range 5 {
				p := start(t, esc)
				first, second := p.e.Next(0), p.e.Next(1)
				spoil(first)
				spoil(second)
				p.write(t, s)
				results, copies := [][]byte{}, [][]byte{}
				for range 4 {
					b := p.e.Next(n)
					p.delivered += len(b)
					p.check(t)
					results, copies = append(results, b), append(copies, bytes.Clone(b))
					p.write(t, "<")
				}
				for i, b := range results {
					if !bytes.Equal(b, copies[i]) {
						t.Fatalf("result %d of Next(%d) has changed from %q to %q", i, n, copies[i], b)
					}
					spoil(b)
				}
				p.finish(t, 3)
			}
		}
	}
}

// spoil changes a slice and its capacity.
func spoil(b []byte) {
	b = b[:cap(b)]
	for i := range b {
		b[i] ^= 0x55
	}
}

// TestResultsAreIndependent spoils results one by one and looks at the others.
func TestResultsAreIndependent(t *testing.T) { // P8.3: rule 4
	for _, esc := range escapers {
		p := start(t, esc)
		p.write(t, "ab<cd&ef")
		p.close(t)
		var results, copies [][]byte
		for !p.e.Done() {
			b := p.e.Next(2)
			results, copies = append(results, b), append(copies, bytes.Clone(b))
		}
		for i := range results {
			spoil(results[i])
			for j := i + 1; j < len(results); j++ {
				if !bytes.Equal(results[j], copies[j]) {
					t.Fatalf("escaper %d: results %d and %d share memory", esc, i, j)
				}
			}
		}
	}
}

// TestSeveralEscapers has two escapers in turn.
func TestSeveralEscapers(t *testing.T) { // P2
	for _, a := range escapers {
		for _, b := range escapers {
			p, q := start(t, a), start(t, b)
			for _, s := range []string{"a<", "\xe2", "\x82", "\xac", "\xf0\x9f", "&", "\xf0\x9f\x98"} {
				p.write(t, s)
				q.check(t)
				p.next(t, 2)
				q.check(t)
				q.write(t, s[:1])
				p.check(t)
			}
			q.close(t)
			p.check(t)
			q.finish(t, 1)
			p.write(t, "\x80")
			p.finish(t, 1)
			q.check(t)
		}
	}
}

// TestLongInput has much input at once, rune by rune and byte by byte, and much output at once and in pieces.
func TestLongInput(t *testing.T) { // P8.4
	s := strings.Repeat("a<\u00e4&\u20ac\U0001f600\xff\xe2\x82", 5000)
	for _, esc := range escapers {
		want := whole(t, esc, s)
		for _, n := range []int{1, 5, math.MaxInt} {
			if take(t, esc, strings.Split(s, ""), n) != want || take(t, esc, []string{s}, n) != want {
				t.Fatalf("escaper %d, output in pieces of %d: not the result of Escape", esc, n)
			}
		}
		e, _ := incescape.New(esc)
		for i := range len(s) {
			e.Write([]byte(s[i : i+1]))
		}
		e.Close()
		if e.Ready() != len(want) || string(e.Next(len(want)+1)) != want || !e.Done() {
			t.Fatalf("escaper %d: not the result of Escape", esc)
		}
	}
}
