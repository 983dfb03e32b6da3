package dechunk_test

import (
	"fmt"
	"slices"
	"strings"
	"testing"

	"tmplpipe/api"
	"tmplpipe/dechunk"
)

const lastChunk = "0\r\n\r\n"

// chunk returns the encoding of a chunk, as chapter 4 describes it.
func chunk(payload string) string { return fmt.Sprintf("%x\r\n%s\r\n", len(payload), payload) }

// body returns the body with these chunks.
func body(payloads ...string) string {
	out := ""
	for _, payload := range payloads {
		out += chunk(payload)
	}
	return out + lastChunk
}

// letters returns n bytes that repeat only after a prime number of them, among them every byte that a line contains.
func letters(n int) string {
	out := make([]byte, n)
	for i := range out {
		out[i] = byte(i % 251)
	}
	return string(out)
}

// seen is all that can be observed of a decoder.
type seen struct {
	payload  string
	sizes    []int
	whole    bool
	complete bool
	offset   int
}

func (s seen) equal(o seen) bool {
	return s.payload == o.payload && slices.Equal(s.sizes, o.sizes) && s.whole == o.whole && s.complete == o.complete && s.offset == o.offset
}

func (s seen) String() string {
	return fmt.Sprintf("payload %.40q (%d bytes), sizes %.40v, whole %v, complete %v, offset %d",
		s.payload, len(s.payload), fmt.Sprint(s.sizes), s.whole, s.complete, s.offset)
}

func look(d *dechunk.Decoder) seen {
	return seen{string(d.Payload()), d.Sizes(), d.Whole(), d.Complete(), d.Offset()}
}

// check compares all that can be observed of d.
func check(t *testing.T, d *dechunk.Decoder, want seen) {
	t.Helper()
	if got := look(d); !got.equal(want) {
		t.Fatalf("%v; want %v", got, want)
	}
}

// feed passes bytes to d and compares the error and all that can be observed afterwards.
func feed(t *testing.T, d *dechunk.Decoder, b string, e api.Errno, want seen) {
	t.Helper()
	if got := d.Feed([]byte(b)); got != e {
		t.Fatalf("Feed(%.40q) = %v; want %v", b, got, e)
	}
	check(t, d, want)
}

// fed returns a decoder that has decoded b.
func fed(t *testing.T, b string) *dechunk.Decoder {
	t.Helper()
	d := dechunk.New()
	if e := d.Feed([]byte(b)); e != api.OK {
		t.Fatalf("Feed(%.40q) = %v", b, e)
	}
	return d
}

// decode compares the results of Decode with what is wanted.
func decode(t *testing.T, b, payload string, complete bool, e api.Errno) {
	t.Helper()
	got, gotComplete, gotE := dechunk.Decode([]byte(b))
	if string(got) != payload || gotComplete != complete || gotE != e {
		t.Fatalf("Decode(%.40q) = %.40q, %v, %v; want %.40q, %v, %v", b, got, gotComplete, gotE, payload, complete, e)
	}
}

// grammar knows all chunk-size lines.
type grammar struct {
	sizes  map[string]int  // by the line
	begins map[string]bool // the proper prefixes of the lines
}

func newGrammar() *grammar {
	g := &grammar{map[string]int{}, map[string]bool{}}
	for n := range api.MaxChunk + 1 {
		line := fmt.Sprintf("%x\r\n", n)
		g.sizes[line] = n
		for i := range line {
			g.begins[line[:i]] = true
		}
	}
	return g
}

// prefix says what the chapter says of s if it is a prefix of some body, and otherwise that it is none.
func (g *grammar) prefix(s string) (seen, bool) {
	x := seen{offset: len(s)}
	for s != "" {
		line, rest, found := strings.Cut(s, "\n")
		if !found {
			return x, g.begins[s]
		}
		size, known := g.sizes[line+"\n"]
		if !known {
			return x, false
		}
		x.sizes = append(x.sizes, size)
		x.payload += rest[:min(size, len(rest))]
		if len(rest) < size+2 {
			return x, strings.HasPrefix("\r\n", rest[min(size, len(rest)):])
		}
		if rest[size:size+2] != "\r\n" {
			return x, false
		}
		s = rest[size+2:]
		if size == 0 {
			x.whole, x.complete = s == "", s == ""
			return x, s == ""
		}
	}
	x.whole = true
	return x, true
}

// decoded says what the chapter says of a decoder after s, and returns the error of the Feed.
func (g *grammar) decoded(s string) (seen, api.Errno) {
	x, _ := g.prefix("")
	for i := range len(s) {
		longer, valid := g.prefix(s[:i+1])
		if !valid && x.complete {
			return x, api.ErrTrailing
		}
		if !valid {
			return x, api.ErrSyntax
		}
		x = longer
	}
	return x, api.OK
}

// agrees feeds s at once, byte by byte and to Decode, and compares the results with those of the grammar.
func (g *grammar) agrees(t *testing.T, s string) {
	t.Helper()
	want, e := g.decoded(s)
	d := dechunk.New()
	feed(t, d, s, e, want)
	feed(t, d, "", e, want)
	slow, latest := dechunk.New(), api.OK
	for i := range len(s) {
		latest = slow.Feed([]byte(s[i : i+1]))
		if i < want.offset && latest != api.OK {
			t.Fatalf("%.40q: Feed of the byte at %d = %v", s, i, latest)
		}
	}
	if latest != e {
		t.Fatalf("%.40q byte by byte: %v; want %v", s, latest, e)
	}
	check(t, slow, want)
	if e != api.OK {
		decode(t, s, "", false, e)
		return
	}
	decode(t, s, want.payload, want.complete, api.OK)
}

// sampleBodies are bodies with no, one and several chunks, and with payloads that look like parts of bodies.
var sampleBodies = []string{
	body(),
	body("a"),
	body("abc", "d", "\x00\xff\x80"),
	body("\r", "\n", "\r\n", "\n\r", "0", "0\r\n\r\n"),
	body("1\r\nx\r\n0\r\n\r\n", "10\r\n", "aA"),
	body("123456789", "1234567890", letters(15), letters(16), letters(26)),
	body("x", letters(40), "y"),
}

func TestNewDecoder(t *testing.T) { // P5.2
	for range 2 {
		d := dechunk.New()
		if d == nil {
			t.Fatal("New returned nil")
		}
		check(t, d, seen{whole: true})
	}
}

func TestNilDecoder(t *testing.T) { // P5.1, P5.2: the sentence below the function list
	var d *dechunk.Decoder
	for _, b := range []string{"", "0", lastChunk, lastChunk + "x", "x", body("abc")} {
		feed(t, d, b, api.ErrNil, seen{})
	}
	if e := d.Feed(nil); e != api.ErrNil {
		t.Errorf("Feed(nil) = %v", e)
	}
}

func TestFeedOfNothing(t *testing.T) { // P5.1
	d := dechunk.New()
	feed(t, d, "", api.OK, seen{whole: true})
	if e := d.Feed(nil); e != api.OK {
		t.Errorf("Feed(nil) = %v", e)
	}
	check(t, d, seen{whole: true})
	feed(t, d, "2\r\na", api.OK, seen{"a", []int{2}, false, false, 4})
	feed(t, d, "", api.OK, seen{"a", []int{2}, false, false, 4})
	feed(t, d, "b\r\n0\r\n\r\n", api.OK, seen{"ab", []int{2, 0}, true, true, 12})
	feed(t, d, "", api.OK, seen{"ab", []int{2, 0}, true, true, 12})
}

// TestEachPlaceOfABody writes down what is observed at every place, also in a size line, in a payload and between a
// carriage return and its newline.
func TestEachPlaceOfABody(t *testing.T) { // P5.1, P5.2
	payload := "abcdefghijklmnop"
	d := dechunk.New()
	check(t, d, seen{whole: true})
	for _, c := range []struct {
		fed  string
		want seen
	}{
		{"2", seen{"", nil, false, false, 1}},
		{"\r", seen{"", nil, false, false, 2}},
		{"\n", seen{"", []int{2}, false, false, 3}},
		{"\n", seen{"\n", []int{2}, false, false, 4}},
		{"0", seen{"\n0", []int{2}, false, false, 5}},
		{"\r", seen{"\n0", []int{2}, false, false, 6}},
		{"\n", seen{"\n0", []int{2}, true, false, 7}},
		{"1", seen{"\n0", []int{2}, false, false, 8}},
		{"0", seen{"\n0", []int{2}, false, false, 9}},
		{"\r", seen{"\n0", []int{2}, false, false, 10}},
		{"\n", seen{"\n0", []int{2, 16}, false, false, 11}},
		{payload[:15], seen{"\n0" + payload[:15], []int{2, 16}, false, false, 26}},
		{payload[15:], seen{"\n0" + payload, []int{2, 16}, false, false, 27}},
		{"\r", seen{"\n0" + payload, []int{2, 16}, false, false, 28}},
		{"\n", seen{"\n0" + payload, []int{2, 16}, true, false, 29}},
		{"0", seen{"\n0" + payload, []int{2, 16}, false, false, 30}},
		{"\r", seen{"\n0" + payload, []int{2, 16}, false, false, 31}},
		{"\n", seen{"\n0" + payload, []int{2, 16, 0}, false, false, 32}},
		{"\r", seen{"\n0" + payload, []int{2, 16, 0}, false, false, 33}},
		{"\n", seen{"\n0" + payload, []int{2, 16, 0}, true, true, 34}},
	} {
		feed(t, d, c.fed, api.OK, c.want)
	}
	feed(t, d, "\r", api.ErrTrailing, seen{"\n0" + payload, []int{2, 16, 0}, true, true, 34})
}

func TestDecode(t *testing.T) { // P5.3
	for _, c := range []struct {
		b        string
		payload  string
		complete bool
		e        api.Errno
	}{
		{"", "", false, api.OK},
		{"1\r\na", "a", false, api.OK},
		{"0\r\n\r\nx", "", false, api.ErrTrailing},
		{"0\r\n\r\n", "", true, api.OK},
		{"0\r\n\r", "", false, api.OK},
		{"2\r\nab\r\n1\r\nc\r\n0\r\n\r\n", "abc", true, api.OK},
		{"2\r\nab\r\n1\r\nc\r\n0\r\n\r", "abc", false, api.OK},
		{"2\r\nab\r\n1\r\nc\r\n", "abc", false, api.OK},
		{"2\r\nab\r\n1\r\nc\r\n0\r\n\r\n0\r\n\r\n", "", false, api.ErrTrailing},
		{"2\r\nab\r\n1\r\ncd\r\n", "", false, api.ErrSyntax},
		{"1a\r\nabcdefghijklmnopqrstuvwxyz\r\n", "abcdefghijklmnopqrstuvwxyz", false, api.OK},
		{"1A\r\nabcdefghijklmnopqrstuvwxyz\r\n", "", false, api.ErrSyntax},
		{"x", "", false, api.ErrSyntax},
	} {
		decode(t, c.b, c.payload, c.complete, c.e)
	}
	if b, complete, e := dechunk.Decode(nil); len(b) != 0 || complete || e != api.OK {
		t.Errorf("Decode(nil) = %q, %v, %v", b, complete, e)
	}
}

// TestSizeLines writes down how many bytes of each line are decoded.
func TestSizeLines(t *testing.T) { // P5.1, P5.2
	for _, c := range []struct {
		line   string
		offset int
		sizes  []int
		e      api.Errno
	}{
		{"1\r\n", 3, []int{1}, api.OK},
		{"9\r\n", 3, []int{9}, api.OK},
		{"a\r\n", 3, []int{10}, api.OK},
		{"f\r\n", 3, []int{15}, api.OK},
		{"10\r\n", 4, []int{16}, api.OK},
		{"ff\r\n", 4, []int{255}, api.OK},
		{"ffff\r\n", 6, []int{api.MaxChunk - 1}, api.OK},
		{"10000\r\n", 7, []int{api.MaxChunk}, api.OK},
		{"0\r\n", 3, []int{0}, api.OK},
		{"10001\r\n", 4, nil, api.ErrSyntax},
		{"10010\r\n", 4, nil, api.ErrSyntax},
		{"20000\r\n", 4, nil, api.ErrSyntax},
		{"1001\r\n", 6, []int{4097}, api.OK},
		{"100000\r\n", 5, nil, api.ErrSyntax},
		{"ffffffffffffffffffffffff\r\n", 4, nil, api.ErrSyntax},
		{"00\r\n", 1, nil, api.ErrSyntax},
		{"01\r\n", 1, nil, api.ErrSyntax},
		{"000001\r\n", 1, nil, api.ErrSyntax},
		{"A\r\n", 0, nil, api.ErrSyntax},
		{"F\r\n", 0, nil, api.ErrSyntax},
		{"1A\r\n", 1, nil, api.ErrSyntax},
		{"g\r\n", 0, nil, api.ErrSyntax},
		{"\r\n", 0, nil, api.ErrSyntax},
		{"\n", 0, nil, api.ErrSyntax},
		{" 1\r\n", 0, nil, api.ErrSyntax},
		{"1 \r\n", 1, nil, api.ErrSyntax},
		{"1;a=b\r\n", 1, nil, api.ErrSyntax},
		{"+1\r\n", 0, nil, api.ErrSyntax},
		{"-1\r\n", 0, nil, api.ErrSyntax},
		{"0x1\r\n", 1, nil, api.ErrSyntax},
		{"1\n", 1, nil, api.ErrSyntax},
		{"1\n\r", 1, nil, api.ErrSyntax},
		{"1\r\r\n", 2, nil, api.ErrSyntax},
		{"1\rx", 2, nil, api.ErrSyntax},
		{"1x\n", 1, nil, api.ErrSyntax},
		{"\x80", 0, nil, api.ErrSyntax},
		{"\x00", 0, nil, api.ErrSyntax},
		{"1\xff", 1, nil, api.ErrSyntax},
	} {
		whole := c.offset == 0
		feed(t, dechunk.New(), c.line, c.e, seen{sizes: c.sizes, whole: whole, offset: c.offset})
		feed(t, fed(t, chunk("ab")), c.line, c.e, seen{"ab", append([]int{2}, c.sizes...), whole, false, c.offset + 7})
	}
}

// TestEachSize feeds the line of each size, and digits for each size of up to five digits that is too great.
func TestEachSize(t *testing.T) { // P5.1, P5.2
	for n := range api.MaxChunk + 1 {
		line := fmt.Sprintf("%x\r\n", n)
		feed(t, dechunk.New(), line, api.OK, seen{sizes: []int{n}, offset: len(line)})
	}
	for n := api.MaxChunk + 1; n < 1<<20; n++ {
		d := dechunk.New()
		line := fmt.Sprintf("%x\r\n", n)
		if e := d.Feed([]byte(line)); e != api.ErrSyntax || d.Offset() != 4 || len(d.Sizes()) > 0 {
			t.Fatalf("Feed(%q) = %v, %v", line, e, look(d))
		}
	}
}

// TestPayloadOfEachLength has the payloads at which the size line becomes longer, and what is wrong behind them.
func TestPayloadOfEachLength(t *testing.T) { // P5.1, P5.2
	all := letters(api.MaxChunk)
	for _, n := range []int{1, 2, 9, 10, 15, 16, 17, 26, 255, 256, 257, 4095, 4096, 4097, api.MaxChunk - 1, api.MaxChunk} {
		line := fmt.Sprintf("%x\r\n", n)
		d := fed(t, line+all[:n-1])
		check(t, d, seen{all[:n-1], []int{n}, false, false, len(line) + n - 1})
		feed(t, d, all[n-1:n], api.OK, seen{all[:n], []int{n}, false, false, len(line) + n})
		feed(t, d, "\r", api.OK, seen{all[:n], []int{n}, false, false, len(line) + n + 1})
		feed(t, d, "\n", api.OK, seen{all[:n], []int{n}, true, false, len(line) + n + 2})
		feed(t, d, lastChunk, api.OK, seen{all[:n], []int{n, 0}, true, true, len(line) + n + 7})
		for _, wrong := range []string{"x", "\n", "0", "\r\r", "\rx", "\r0", "\n\r"} {
			end := len(line) + n + strings.Count(wrong[:len(wrong)-1], "\r")
			feed(t, fed(t, line), all[:n]+wrong, api.ErrSyntax, seen{all[:n], []int{n}, false, false, end})
		}
	}
}

// TestPayloadOfEachByte has each byte as a payload, and at the start and at the end of one.
func TestPayloadOfEachByte(t *testing.T) { // P5.1, P5.2
	for c := range 256 {
		b := string([]byte{byte(c)})
		decode(t, body(b, b+"\r\n", "\r"+b), b+b+"\r\n\r"+b, true, api.OK)
		check(t, fed(t, "3\r\n"+b+"\r"), seen{b + "\r", []int{3}, false, false, 5})
	}
}

// TestWrongEndOfTheLastChunk has trailers and bytes in place of the last line end.
func TestWrongEndOfTheLastChunk(t *testing.T) { // P5.1
	for _, c := range []struct {
		behind string
		offset int
	}{{"\n", 0}, {"a: b\r\n\r\n", 0}, {"0\r\n\r\n", 0}, {"1\r\na\r\n", 0}, {"\r\r\n", 1}, {"\rx", 1}, {"\x00", 0}} {
		feed(t, dechunk.New(), "0\r\n"+c.behind, api.ErrSyntax, seen{sizes: []int{0}, offset: 3 + c.offset})
		feed(t, fed(t, chunk("a")), "0\r\n"+c.behind, api.ErrSyntax, seen{"a", []int{1, 0}, false, false, 9 + c.offset})
	}
}

// TestPrefixes has every prefix of the bodies, also as the result of Decode.
func TestPrefixes(t *testing.T) { // P5.1, P5.2, P5.3, P5.4
	g := newGrammar()
	for _, b := range sampleBodies {
		whole, _, e := dechunk.Decode([]byte(b))
		if e != api.OK {
			t.Fatalf("Decode(%.40q) = %v", b, e)
		}
		for i := range len(b) + 1 {
			g.agrees(t, b[:i])
			part, complete, e := dechunk.Decode([]byte(b[:i]))
			if e != api.OK || complete != (i == len(b)) || !strings.HasPrefix(string(whole), string(part)) {
				t.Fatalf("Decode(%.40q) = %.40q, %v, %v", b[:i], part, complete, e)
			}
		}
	}
}

// TestEachByteAtEachPlace replaces each byte of the bodies and goes on behind it.
func TestEachByteAtEachPlace(t *testing.T) { // P5.1, P5.3, P5.4
	g := newGrammar()
	for _, b := range sampleBodies {
		for i := range len(b) {
			for c := range 256 {
				g.agrees(t, b[:i]+string([]byte{byte(c)})+b[i+1:])
			}
		}
	}
}

// TestBytesLeftOutOrAdded leaves out each byte of the bodies, and adds some bytes at each place.
func TestBytesLeftOutOrAdded(t *testing.T) { // P5.1, P5.3, P5.4
	g := newGrammar()
	for _, b := range sampleBodies {
		for i := range len(b) {
			g.agrees(t, b[:i]+b[i+1:])
			for _, added := range []string{"\r", "\n", "0", "1", "a", "A", " ", "\r\n"} {
				g.agrees(t, b[:i]+added+b[i:])
			}
		}
	}
}

func TestBytesBehindABody(t *testing.T) { // P5.1, P5.3
	for _, b := range sampleBodies {
		want := look(fed(t, b))
		if !want.complete {
			t.Fatalf("%.40q is not complete", b)
		}
		for c := range 256 {
			behind := string([]byte{byte(c)})
			decode(t, b+behind, "", false, api.ErrTrailing)
			feed(t, dechunk.New(), b+behind+"0", api.ErrTrailing, want)
			feed(t, fed(t, b), behind, api.ErrTrailing, want)
		}
		feed(t, fed(t, b), b, api.ErrTrailing, want)
	}
}

// TestFeedAfterAnError feeds bytes that would have been right, among others, at every place of a body.
func TestFeedAfterAnError(t *testing.T) { // P5.1
	b := body("abc", "\r\n", letters(16))
	for i := range len(b) + 1 {
		d := fed(t, b[:i])
		want, e := look(d), api.ErrSyntax
		if i == len(b) {
			e = api.ErrTrailing
		}
		if d.Feed([]byte("X")) == api.OK {
			continue // in a payload
		}
		for _, later := range []string{"", b[i:], "X", b, lastChunk, "\r\n", "", "\r", "\n", "0"} {
			feed(t, d, later, e, want)
		}
	}
}

// TestShortStrings has all strings of up to six of the bytes that matter, and of up to four behind beginnings of bodies.
func TestShortStrings(t *testing.T) { // P5.1, P5.2, P5.3, P5.4
	g := newGrammar()
	var extend func(s string, more int)
	extend = func(s string, more int) {
		g.agrees(t, s)
		if more > 0 {
			for _, c := range "01aA\r\n" {
				extend(s+string(c), more-1)
			}
		}
	}
	extend("", 6)
	for _, s := range []string{"1\r\n", "2\r\nx", "1\r\nx\r\n", "1\r\nx\r\n0\r\n", "0\r\n", "0\r\n\r\n", "1000", "ff", "10\r\n0123456789abcde"} {
		extend(s, 4)
	}
}

// split feeds s in pieces that end at the given places.
func split(t *testing.T, s string, e api.Errno, want seen, ends ...int) {
	t.Helper()
	d, start, latest := dechunk.New(), 0, api.OK
	for _, end := range append(ends, len(s)) {
		latest = d.Feed([]byte(s[start:end]))
		start = end
		if end <= want.offset && latest != api.OK || end > want.offset && latest != e {
			t.Fatalf("%.40q with ends at %v: %v at %d", s, ends, latest, end)
		}
	}
	if latest != e || !look(d).equal(want) {
		t.Fatalf("%.40q with ends at %v: %v, %v; want %v, %v", s, ends, latest, look(d), e, want)
	}
}

// TestSplits splits bodies, prefixes of them and strings with an error in all ways into up to three pieces.
func TestSplits(t *testing.T) { // P5.1, P5.4
	g := newGrammar()
	for _, s := range []string{"", body(), body("abc", "\r\n"), body("0\r\n\r\n", letters(16)), body("a") + "xyz", "10\r\nabc",
		"2\r\nabc\r\n0\r\n\r\n", "1\r\na\r\n0001\r\n", "10000\rx\n", "1\r\na\r\n0\r\n\rx"} {
		want, e := g.decoded(s)
		split(t, s, e, want)
		for i := range len(s) + 1 {
			split(t, s, e, want, i)
			for j := i; j <= len(s); j++ {
				split(t, s, e, want, i, j)
			}
		}
	}
}

// TestPiecesOfEachSize splits longer bodies, with one error or none, into pieces of one size.
func TestPiecesOfEachSize(t *testing.T) { // P5.1, P5.4
	g := newGrammar()
	b := body(letters(300), "\r\n", "0\r\n\r\n", letters(17), letters(256), "x")
	for _, s := range []string{b, b + "0", b[:200], b[:305] + b[306:], b[:len(b)-3]} {
		want, e := g.decoded(s)
		for n := 1; n <= len(s); n++ {
			ends := []int{}
			for end := n; end < len(s); end += n {
				ends = append(ends, end)
			}
			split(t, s, e, want, ends...)
		}
	}
}

func TestManyChunks(t *testing.T) { // P5.1, P5.2
	const n = 1 << 17
	b := strings.Repeat("1\r\nx\r\n", n)
	sizes := slices.Repeat([]int{1}, n)
	d := fed(t, b)
	check(t, d, seen{strings.Repeat("x", n), sizes, true, false, len(b)})
	feed(t, d, lastChunk, api.OK, seen{strings.Repeat("x", n), append(sizes, 0), true, true, len(b) + 5})
}

func TestManyBytes(t *testing.T) { // P5.1, P5.2
	all := letters(api.MaxChunk)
	b := body(all, all, all[:1], all[:api.MaxChunk-1])
	d := fed(t, b)
	check(t, d, seen{all + all + all[:1] + all[:api.MaxChunk-1], []int{api.MaxChunk, api.MaxChunk, 1, api.MaxChunk - 1, 0}, true, true, len(b)})
	decode(t, b, all+all+all[:1]+all[:api.MaxChunk-1], true, api.OK)
}

// TestArgumentOfFeedMayChangeLater also looks at what lies beyond the length of the argument.
func TestArgumentOfFeedMayChangeLater(t *testing.T) { // P5.1, rule 4
	for _, b := range append(sampleBodies, body("a")+"x", "2\r\nabc", "1x", "10", "0\r\n\r") {
		for _, n := range []int{1, 2, 3, 4, len(b)} {
			whole := fed(t, "")
			e := whole.Feed([]byte(b))
			d := dechunk.New()
			for piece := range slices.Chunk([]byte(b), n) {
				memory := append(slices.Clone(piece), "\r\nspare"...)
				d.Feed(memory[:len(piece)])
				if string(memory) != string(piece)+"\r\nspare" {
					t.Fatalf("Feed(%q) modified its argument", piece)
				}
				clear(memory)
			}
			feed(t, d, "", e, look(whole))
		}
	}
}

// spoil overwrites a result and its spare capacity.
func spoil[E byte | int](s []E) {
	s = s[:cap(s)]
	for i := range s {
		s[i] = '#'
	}
}

// TestResultsAreOnesOwn changes the results at every place of the bodies.
func TestResultsAreOnesOwn(t *testing.T) { // P5.2, rule 4
	for _, b := range sampleBodies {
		d := dechunk.New()
		for i := range len(b) + 1 {
			want := look(fed(t, b[:i]))
			payload, sizes := d.Payload(), d.Sizes()
			spoil(d.Payload())
			spoil(d.Sizes())
			check(t, d, want)
			if i < len(b) && d.Feed([]byte(b[i:i+1])) != api.OK {
				t.Fatalf("%.40q: Feed of the byte at %d failed", b, i)
			}
			if string(payload) != want.payload || !slices.Equal(sizes, want.sizes) {
				t.Fatalf("%.40q: results at %d became %.40q and %v", b, i, payload, sizes)
			}
			spoil(payload)
			spoil(sizes)
		}
		check(t, d, look(fed(t, b)))
	}
}

// TestDecodeSharesNothing changes the argument and the results, and looks beyond the length of the argument.
func TestDecodeSharesNothing(t *testing.T) { // P5.3, rule 4
	for _, b := range append(sampleBodies, "", "5\r\nabc", "1\r\nx\r") {
		want, complete, _ := dechunk.Decode([]byte(b))
		payload := string(want)
		memory := append([]byte(b), "\r\nspare"...)
		first, _, _ := dechunk.Decode(memory[:len(b)])
		second, _, _ := dechunk.Decode(memory[:len(b)])
		spoil(first)
		if string(memory) != b+"\r\nspare" {
			t.Fatalf("Decode(%.40q) or a change of its result made the argument %q", b, memory)
		}
		clear(memory)
		if string(second) != payload {
			t.Fatalf("Decode(%.40q): later changes made the result %q", b, second)
		}
		decode(t, b, payload, complete, api.OK)
	}
}

func TestDecodersAreIndependent(t *testing.T) { // P2
	a, b := dechunk.New(), dechunk.New()
	feed(t, a, "2\r\nx", api.OK, seen{"x", []int{2}, false, false, 4})
	check(t, b, seen{whole: true})
	feed(t, b, "0\r\n\r\n0", api.ErrTrailing, seen{"", []int{0}, true, true, 5})
	feed(t, a, "y\r\n", api.OK, seen{"xy", []int{2}, true, false, 7})
	decode(t, "1\r\na", "a", false, api.OK)
	feed(t, a, "1", api.OK, seen{"xy", []int{2}, false, false, 8})
	decode(t, "0\r\n", "", false, api.OK)
	feed(t, a, "x", api.ErrSyntax, seen{"xy", []int{2}, false, false, 8})
	feed(t, b, "", api.ErrTrailing, seen{"", []int{0}, true, true, 5})
	check(t, dechunk.New(), seen{whole: true})
}

// TestManyBodies feeds long bodies in pieces, often with a wrong byte, at places that a simple rule chooses.
func TestManyBodies(t *testing.T) { // P5.1, P5.2, P5.4
	g, seed := newGrammar(), uint32(1)
	next := func(n int) int {
		seed = seed*1664525 + 1013904223
		return int(seed>>8) % n
	}
	kinds := map[api.Errno]int{}
	for range 1500 {
		s := ""
		for range next(8) {
			s += chunk(letters(300)[next(250):][:1+next(40)])
		}
		s += lastChunk
		if next(2) == 0 {
			at := next(len(s) + 1)
			s = s[:at] + string("01aA\r\n"[next(6)]) + s[at:]
		}
		want, e := g.decoded(s)
		kinds[e]++
		ends := []int{}
		for end := next(20); end < len(s); end += next(20) {
			ends = append(ends, end)
		}
		split(t, s, e, want, ends...)
	}
	if kinds[api.OK] < 100 || kinds[api.ErrSyntax] < 100 || kinds[api.ErrTrailing] < 10 {
		t.Errorf("too few bodies of some kind: %v", kinds)
	}
}
