package runes_test

import (
	"math"
	"slices"
	"strings"
	"sync"
	"testing"

	"tmplpipe/runes"
)

const (
	wrong        = rune(0xfffd)   // what bytes that belong to no encoding are decoded as
	encodedWrong = "\xef\xbf\xbd" // the encoding of that rune
	last         = rune(0x10ffff) // the last code point
)

// form returns r in the form of an encoding of n bytes, up to 6, whether or not that is its encoding.
func form(r, n int) string {
	if n == 1 {
		return string([]byte{byte(r)})
	}
	b := make([]byte, n)
	for i := n - 1; i > 0; i-- {
		b[i] = byte(0x80 + r%64)
		r /= 64
	}
	marks := [7]int{2: 0xc0, 3: 0xe0, 4: 0xf0, 5: 0xf8, 6: 0xfc}
	b[0] = byte(marks[n] + r)
	return string(b)
}

// formLimits are the numbers of runes that fit in forms of up to so many bytes.
var formLimits = [7]int{1: 0x80, 2: 0x800, 3: 0x10000, 4: 0x200000, 5: 0x4000000, 6: 0x80000000}

func isSurrogate(r rune) bool { return r >= 0xd800 && r <= 0xdfff }

// isEncodable reports whether r has an encoding of its own.
func isEncodable(r rune) bool { return r >= 0 && r <= last && !isSurrogate(r) }

// encoding returns the shortest form of r, which must be encodable.
func encoding(r rune) string {
	n := 1
	for int(r) >= formLimits[n] {
		n++
	}
	return form(int(r), n)
}

// grammar knows the encodings of all runes.
type grammar struct {
	runes  map[string]rune // by the encoding
	begins map[string]bool // the proper prefixes of the encodings, without the empty one
}

// theGrammar builds the tables only once, since they are large.
var theGrammar = sync.OnceValue(func() *grammar {
	g := &grammar{map[string]rune{}, map[string]bool{}}
	for r := range last + 1 {
		if !isEncodable(r) {
			continue
		}
		s := encoding(r)
		g.runes[s] = r
		for i := 1; i < len(s); i++ {
			g.begins[s[:i]] = true
		}
	}
	return g
})

// first says which rune the chapter decodes at the start of s, how long it is and whether it is valid.
func (g *grammar) first(s string) (rune, int, bool) {
	for n := 1; n <= min(4, len(s)); n++ {
		if r, found := g.runes[s[:n]]; found {
			return r, n, true
		}
	}
	return wrong, 1, false
}

// decode says which runes the chapter decodes, and whether s is valid.
func (g *grammar) decode(s string) ([]rune, bool) {
	l, valid := []rune{}, true
	for s != "" {
		r, n, ok := g.first(s)
		l, valid, s = append(l, r), valid && ok, s[n:]
	}
	return l, valid
}

// write says what the chapter decodes of s if it is not the end of the input, and how many bytes it holds back.
func (g *grammar) write(s string) ([]rune, int) {
	l := []rune{}
	for s != "" && !g.begins[s] {
		r, n, _ := g.first(s)
		l, s = append(l, r), s[n:]
	}
	return l, len(s)
}

// agrees decodes s, checks it, and writes it in two parts split at each place and byte by byte, and compares the
// results with those of the grammar.
func (g *grammar) agrees(t *testing.T, s string) {
	t.Helper()
	want, valid := g.decode(s)
	decode(t, s, want)
	if got := runes.Valid(s); got != valid {
		t.Fatalf("Valid(%.40q) = %v", s, got)
	}
	for i := range len(s) + 1 {
		g.split(t, s, i)
	}
	ends := []int{}
	for i := range len(s) {
		ends = append(ends, i)
	}
	g.split(t, s, ends...)
}

// split writes s in pieces that end at the given places, and compares what is decoded and held at each of them, and all
// that is decoded in the end with Decode.
func (g *grammar) split(t *testing.T, s string, ends ...int) {
	t.Helper()
	d, all, start := runes.New(), []rune{}, 0
	for _, end := range append(ends, len(s)) {
		all = append(all, d.Write([]byte(s[start:end]))...)
		start = end
		want, held := g.write(s[:end])
		if !slices.Equal(all, want) || d.Held() != held || held > 3 {
			t.Fatalf("%.40q with ends at %v: up to %d %.40q, %d held; want %.40q, %d held", s, ends, end, all, d.Held(), want, held)
		}
	}
	all = append(all, d.Close()...)
	if whole := runes.Decode(s); !slices.Equal(all, whole) || d.Held() != 0 {
		t.Fatalf("%.40q with ends at %v: %.40q, %d held; Decode returns %.40q", s, ends, all, d.Held(), whole)
	}
}

// decode compares the result of Decode, and that of a range loop, with what is wanted.
func decode(t *testing.T, s string, want []rune) {
	t.Helper()
	if got := runes.Decode(s); !slices.Equal(got, want) {
		t.Fatalf("Decode(%.40q) = %.40U; want %.40U", s, got, want)
	}
	i := 0
	for _, r := range s {
		if i == len(want) || r != want[i] {
			t.Fatalf("a range loop over %.40q has %U as rune %d; Decode returns %.40U", s, r, i, want)
		}
		i++
	}
	if i != len(want) {
		t.Fatalf("a range loop over %.40q has %d runes; Decode returns %.40U", s, i, want)
	}
}

func encode(t *testing.T, want string, l ...rune) {
	t.Helper()
	if got := runes.Encode(l...); got != want {
		t.Fatalf("Encode(%.40U) = %.40q; want %.40q", l, got, want)
	}
}

// write passes bytes to d and compares what is decoded and how many bytes are held back.
func write(t *testing.T, d *runes.Decoder, b string, held int, want ...rune) {
	t.Helper()
	if got := d.Write([]byte(b)); !slices.Equal(got, want) || d.Held() != held {
		t.Fatalf("Write(%.40q) = %.40U, %d held; want %.40U, %d held", b, got, d.Held(), want, held)
	}
}

// end closes d and compares what is decoded.
func end(t *testing.T, d *runes.Decoder, want ...rune) {
	t.Helper()
	if got := d.Close(); !slices.Equal(got, want) || d.Held() != 0 {
		t.Fatalf("Close() = %U, %d held; want %U, 0 held", got, d.Held(), want)
	}
}

// repeat returns n runes for bytes that belong to no encoding.
func repeat(n int) []rune { return slices.Repeat([]rune{wrong}, n) }

// boundaries are the first and the last rune of each length of encoding and those around the surrogates, written down
// with their encodings.
var boundaries = []struct {
	r rune
	s string
}{
	{0, "\x00"}, {0x7f, "\x7f"},
	{0x80, "\xc2\x80"}, {0x7ff, "\xdf\xbf"},
	{0x800, "\xe0\xa0\x80"}, {0xd7ff, "\xed\x9f\xbf"}, {0xe000, "\xee\x80\x80"}, {0xffff, "\xef\xbf\xbf"},
	{0x10000, "\xf0\x90\x80\x80"}, {0x10ffff, "\xf4\x8f\xbf\xbf"},
	{'a', "a"}, {0xe4, "\xc3\xa4"}, {0x20ac, "\xe2\x82\xac"}, {0x1f600, "\xf0\x9f\x98\x80"}, {wrong, encodedWrong},
}

// invalid are strings of which every byte is decoded as U+FFFD.
var invalid = []string{
	"\x80", "\x8f", "\xbf", "\x80\x80\x80\x80", // continuation bytes alone
	"\xc0", "\xc1", "\xf5", "\xf8", "\xfc", "\xfe", "\xff", "\xff\xff", // bytes that begin no encoding
	"\xc0\x80", "\xc1\xbf", "\xe0\x80\x80", "\xe0\x9f\xbf", "\xf0\x80\x80\x80", "\xf0\x8f\xbf\xbf", // too long
	"\xed\xa0\x80", "\xed\xaf\xbf", "\xed\xb0\x80", "\xed\xbf\xbf", "\xed\xa0\xbd\xed\xb8\x80", // surrogates
	"\xf4\x90\x80\x80", "\xf5\x80\x80\x80", "\xf7\xbf\xbf\xbf", "\xf8\x88\x80\x80\x80", "\xfd\xbf\xbf\xbf\xbf\xbf", // too great
	"\xc2", "\xe2", "\xe2\x82", "\xf0", "\xf0\x9f", "\xf0\x9f\x98", "\xf4\x8f\xbf", "\xef\xbf", // cut off
}

// samples have encodings of each length, parts of them, and bytes that belong to none.
var samples = []string{
	"", "a", "abc", "a\xffb", "\x00\x00", "\xc3\xa4",
	"\u00e4\u20ac\U0001f600x", "x\U0001f600\u20ac\u00e4", "\U0010ffff\uffff\u07ff\x7f",
	encodedWrong + "\xef\xbf" + encodedWrong + "\xef",
	"\xe2\x82\xe2\x82\xac\xf0\x9f\x98\xf0\x9f\x98\x80",
	"\xf0\xf0\x9f\xf0\x9f\x98", "\xf4\x8f\xbf\xc2", "\x80\xbf\xc0\xaf\xe0\x80\xaf",
	"\xed\xa0\x80\xed\x9f\xbf\xf4\x90\x80\x80\xf4\x8f\xbf\xbf",
}

func TestDecode(t *testing.T) { // P6.1
	decode(t, "", nil)
	decode(t, "a\xffb", []rune{'a', wrong, 'b'})
	decode(t, "abc", []rune{'a', 'b', 'c'})
	decode(t, "z\u00e4 \u20ac\n\U0001f600", []rune{'z', 0xe4, ' ', 0x20ac, '\n', 0x1f600})
	decode(t, encodedWrong+"\xff", []rune{wrong, wrong})
	decode(t, "\ufeffa", []rune{0xfeff, 'a'})
	decode(t, "a\u0308", []rune{'a', 0x308})
	decode(t, "\xe2\x82\xe2\x82\xac", []rune{wrong, wrong, 0x20ac})
	decode(t, "\xf0\x9f\x98\xf0\x9f\x98\x80\x80", []rune{wrong, wrong, wrong, 0x1f600, wrong})
	for _, c := range boundaries {
		decode(t, c.s, []rune{c.r})
		decode(t, c.s+c.s+"a"+c.s, []rune{c.r, c.r, 'a', c.r})
	}
}

func TestEncode(t *testing.T) { // P6.1
	encode(t, "")
	encode(t, "", []rune(nil)...)
	encode(t, "", []rune{}...)
	encode(t, "abc", 'a', 'b', 'c')
	encode(t, "z\u00e4\x00\u20ac\U0001f600", 'z', 0xe4, 0, 0x20ac, 0x1f600)
	for _, c := range boundaries {
		encode(t, c.s, c.r)
		encode(t, c.s+"a"+c.s+c.s, c.r, 'a', c.r, c.r)
	}
}

func TestEncodeOfRunesWithoutEncoding(t *testing.T) { // P6.1
	for _, r := range []rune{0xd800, 0xd801, 0xdbff, 0xdc00, 0xdffe, 0xdfff, -1, -2, -0x80, -0xd800, -0x10ffff, -0x110000,
		math.MinInt32, math.MinInt32 + 1, math.MinInt32 + 'a', last + 1, last + 2, 0x110041, 0x1fffff, 0x200000,
		math.MaxInt32 - 1, math.MaxInt32} {
		encode(t, encodedWrong, r)
		encode(t, "a"+encodedWrong+encodedWrong+"b", 'a', r, r, 'b')
	}
	encode(t, encodedWrong+encodedWrong, 0xd83d, 0xde00)
}

func TestValid(t *testing.T) { // P6.1
	valid := func(s string, want bool) {
		t.Helper()
		if got := runes.Valid(s); got != want {
			t.Fatalf("Valid(%.40q) = %v", s, got)
		}
	}
	valid("", true)
	for _, c := range boundaries {
		valid(c.s, true)
		valid("a"+c.s+c.s+"b", true)
		for _, s := range invalid {
			valid(c.s+s, false)
			valid(s+c.s, false)
			valid(c.s+s+c.s, false)
		}
		for i := 1; i < len(c.s); i++ {
			valid(c.s[i:], false)
			valid(c.s[:i], false)
			valid(c.s[:i]+"a", false)
			valid(c.s[:i]+c.s, false)
		}
	}
	for _, s := range invalid {
		valid(s, false)
	}
	valid(encodedWrong, true)
	valid(strings.Repeat("\u00e4\u20ac\U0001f600x", 1000), true)
	valid(strings.Repeat("\u00e4\u20ac\U0001f600x", 1000)+"\xc3", false)
}

// TestInvalidBytes also has them at the start, in the middle and at the end of other strings.
func TestInvalidBytes(t *testing.T) { // P6.1
	for _, s := range invalid {
		decode(t, s, repeat(len(s)))
		for _, c := range boundaries {
			around := slices.Concat([]rune{c.r}, repeat(len(s)), []rune{c.r})
			decode(t, c.s+s, around[:len(s)+1])
			decode(t, s+c.s, around[1:])
			decode(t, c.s+s+c.s, around)
		}
	}
}

// TestCutOffAtEachPlace cuts off encodings at the end of the input and before another rune, at both ends.
func TestCutOffAtEachPlace(t *testing.T) { // P6.1
	for _, c := range boundaries {
		for i := 1; i < len(c.s); i++ {
			decode(t, c.s[:i], repeat(i))
			decode(t, c.s[i:], repeat(len(c.s)-i))
			decode(t, c.s[i:]+"a", append(repeat(len(c.s)-i), 'a'))
			for _, o := range boundaries {
				decode(t, c.s[:i]+o.s, append(repeat(i), o.r))
			}
		}
	}
}

// TestEachRune has all runes of one to four bytes, and all surrogates.
func TestEachRune(t *testing.T) { // P6.1, P6.2
	for r := range last + 1 {
		if isSurrogate(r) {
			s := form(int(r), 3)
			encode(t, encodedWrong, r)
			decode(t, s, []rune{wrong, wrong, wrong})
			if runes.Valid(s) {
				t.Fatalf("%q is valid", s)
			}
			continue
		}
		s := encoding(r)
		encode(t, s, r)
		decode(t, s, []rune{r})
		if !runes.Valid(s) {
			t.Fatalf("%q is not valid", s)
		}
		d := runes.New()
		for i := range len(s) - 1 {
			write(t, d, s[i:i+1], i+1)
		}
		write(t, d, s[len(s)-1:], 0, r)
	}
}

// TestFormsThatAreTooLong has each rune in each form that is longer than its encoding, up to four bytes, and some in
// longer forms.
func TestFormsThatAreTooLong(t *testing.T) { // P6.1, P6.2
	for n := 2; n <= 6; n++ {
		for r := 0; r < min(formLimits[n-1], 0x10000); r++ {
			s := form(r, n)
			decode(t, s, repeat(n))
			if runes.Valid(s) {
				t.Fatalf("%q is valid", s)
			}
			write(t, runes.New(), s, 0, repeat(n)...)
		}
	}
}

func TestFormsOfNumbersThatAreTooGreat(t *testing.T) { // P6.1, P6.2
	for r := int(last) + 1; r < formLimits[4]; r += 1 + r%7 {
		s := form(r, 4)
		decode(t, s, repeat(4))
		if runes.Valid(s) {
			t.Fatalf("%q is valid", s)
		}
		write(t, runes.New(), s, 0, repeat(4)...)
	}
}

func TestNewDecoder(t *testing.T) { // P6.2
	for range 2 {
		d := runes.New()
		if d == nil || d.Held() != 0 {
			t.Fatal("New does not return a decoder without input")
		}
		end(t, d)
		write(t, d, "a", 0, 'a')
	}
}

func TestNilDecoder(t *testing.T) { // P6.2: the sentence below the function list
	var d *runes.Decoder
	for _, s := range append(slices.Clone(samples), invalid...) {
		write(t, d, s, 0)
		end(t, d)
	}
	if l := d.Write(nil); len(l) != 0 {
		t.Errorf("Write(nil) = %U", l)
	}
}

func TestDecoder(t *testing.T) { // P6.2
	d := runes.New()
	write(t, d, "abc", 0, 'a', 'b', 'c')
	write(t, d, "\xc3", 1)
	write(t, d, "\xa4", 0, 0xe4)
	write(t, d, "x\xe2", 1, 'x')
	write(t, d, "\x82", 2)
	write(t, d, "\xac\xf0", 1, 0x20ac)
	write(t, d, "\x9f\x98", 3)
	write(t, d, "\x80", 0, 0x1f600)
	write(t, d, "\u00e4\u20ac\U0001f600\xf0\x9f", 2, 0xe4, 0x20ac, 0x1f600)
	write(t, d, "\x98\x80\xff", 0, 0x1f600, wrong)
	end(t, d)
}

// TestHeldAfterEachByte writes down what is held while encodings of each length arrive, also behind other runes.
func TestHeldAfterEachByte(t *testing.T) { // P6.2
	for _, c := range boundaries {
		for _, before := range []string{"", "a", "\xff", "\u20ac"} {
			d := runes.New()
			d.Write([]byte(before))
			for i := range len(c.s) - 1 {
				write(t, d, c.s[i:i+1], i+1)
			}
			write(t, d, c.s[len(c.s)-1:], 0, c.r)
			end(t, d)
		}
	}
}

// TestHeldOnlyIfAnEncodingMayFollow has all strings of one and two bytes, also with some bytes behind them.
func TestHeldOnlyIfAnEncodingMayFollow(t *testing.T) { // P6.2
	g := theGrammar()
	check := func(b ...byte) {
		t.Helper()
		want, held := g.write(string(b))
		write(t, runes.New(), string(b), held, want...)
	}
	for b := range 256 {
		check(byte(b))
		for c := range 256 {
			check(byte(b), byte(c))
			for _, e := range []byte("\x7f\x80\xa0\xbf\xc0\xc3\xf0") {
				check(byte(b), byte(c), e)
			}
		}
	}
	for b := 0xc2; b <= 0xdf; b++ {
		write(t, runes.New(), string([]byte{byte(b)}), 1)
	}
	for b := 0xf5; b <= 0xff; b++ {
		write(t, runes.New(), string([]byte{byte(b)}), 0, wrong)
	}
}

// TestHeldBytesThatBelongToNoEncoding writes down when bytes that were held back are decoded as U+FFFD after all.
func TestHeldBytesThatBelongToNoEncoding(t *testing.T) { // P6.2
	for _, c := range []struct {
		held, b string
		want    []rune
		left    int
	}{
		{"\xc3", "a", []rune{wrong, 'a'}, 0},
		{"\xc3", "\xc3", []rune{wrong}, 1},
		{"\xc3", "\xff", []rune{wrong, wrong}, 0},
		{"\xc3", "\x00", []rune{wrong, 0}, 0},
		{"\xc3", "\xe2\x82", []rune{wrong}, 2},
		{"\xc3", "\xf0\x9f\x98", []rune{wrong}, 3},
		{"\xc3", "\xf0\x9f\x98\x80", []rune{wrong, 0x1f600}, 0},
		{"\xe0", "\x80", []rune{wrong, wrong}, 0},
		{"\xe0", "\x9f", []rune{wrong, wrong}, 0},
		{"\xed", "\xa0", []rune{wrong, wrong}, 0},
		{"\xed", "\xc2", []rune{wrong}, 1},
		{"\xe2", "a", []rune{wrong, 'a'}, 0},
		{"\xe2\x82", "a", []rune{wrong, wrong, 'a'}, 0},
		{"\xe2\x82", "\xe2", []rune{wrong, wrong}, 1},
		{"\xe2\x82", "\xe2\x82", []rune{wrong, wrong}, 2},
		{"\xe2\x82", "\xe2\x82\xac", []rune{wrong, wrong, 0x20ac}, 0},
		{"\xe2\x82", "\xc0\xac", []rune{wrong, wrong, wrong, wrong}, 0},
		{"\xf0", "\x8f", []rune{wrong, wrong}, 0},
		{"\xf0", "\xf0", []rune{wrong}, 1},
		{"\xf4", "\x90", []rune{wrong, wrong}, 0},
		{"\xf0\x9f", "a", []rune{wrong, wrong, 'a'}, 0},
		{"\xf0\x9f", "\xf4\x8f\xbf", []rune{wrong, wrong}, 3},
		{"\xf0\x9f\x98", "a", []rune{wrong, wrong, wrong, 'a'}, 0},
		{"\xf0\x9f\x98", "\xf0", []rune{wrong, wrong, wrong}, 1},
		{"\xf0\x9f\x98", "\xf0\x9f\x98", []rune{wrong, wrong, wrong}, 3},
		{"\xf0\x9f\x98", "\xf0\x9f\x98\x80", []rune{wrong, wrong, wrong, 0x1f600}, 0},
		{"\xf0\x9f\x98", "\xff\x80", []rune{wrong, wrong, wrong, wrong, wrong}, 0},
		{"\xf4\x8f\xbf", "\xc0", []rune{wrong, wrong, wrong, wrong}, 0},
		{"\xef\xbf", encodedWrong, []rune{wrong, wrong, wrong}, 0},
	} {
		d := runes.New()
		write(t, d, c.held, len(c.held))
		write(t, d, c.b, c.left, c.want...)
		slow := runes.New()
		var got []rune
		for i := range len(c.held + c.b) {
			got = append(got, slow.Write([]byte((c.held + c.b)[i:i+1]))...)
		}
		if !slices.Equal(got, c.want) || slow.Held() != c.left {
			t.Errorf("%q byte by byte: %U, %d held", c.held+c.b, got, slow.Held())
		}
		end(t, d, repeat(c.left)...)
		end(t, slow, repeat(c.left)...)
	}
}

func TestWriteOfNothing(t *testing.T) { // P6.2
	for _, held := range []string{"", "\xc3", "\xe2", "\xe2\x82", "\xf0", "\xf0\x9f", "\xf0\x9f\x98"} {
		d := runes.New()
		write(t, d, held, len(held))
		for range 2 {
			write(t, d, "", len(held))
			if l := d.Write(nil); len(l) != 0 || d.Held() != len(held) {
				t.Fatalf("Write(nil) = %U, %d held", l, d.Held())
			}
		}
		end(t, d, repeat(len(held))...)
		write(t, d, "", 0)
	}
}

// TestClose closes decoders with 0 to 3 held bytes, twice, and writes afterwards.
func TestClose(t *testing.T) { // P6.2
	for _, held := range []string{"", "\xc3", "\xe2", "\xf0", "\xe2\x82", "\xf0\x9f", "\xf0\x9f\x98", "\xf4\x8f\xbf"} {
		for _, before := range []string{"", "a", "\u20ac", "\xff"} {
			d := runes.New()
			d.Write([]byte(before))
			write(t, d, held, len(held))
			end(t, d, repeat(len(held))...)
			end(t, d)
			write(t, d, "\x80\xac\xa4", 0, wrong, wrong, wrong)
			write(t, d, "a\u20ac\xf0\x9f\x98", 3, 'a', 0x20ac)
			write(t, d, "\x80\xc3", 1, 0x1f600)
			end(t, d, wrong)
			end(t, d)
			write(t, d, "\xa4", 0, wrong)
		}
	}
}

// TestClosedDecoderIsAsNew compares decoders that have been closed at each place of the samples with new ones.
func TestClosedDecoderIsAsNew(t *testing.T) { // P6.2
	for _, s := range samples {
		for i := range len(s) + 1 {
			for _, later := range samples {
				closed, fresh := runes.New(), runes.New()
				closed.Write([]byte(s[:i]))
				closed.Close()
				write(t, closed, "", 0)
				got, want := closed.Write([]byte(later)), fresh.Write([]byte(later))
				if !slices.Equal(got, want) || closed.Held() != fresh.Held() {
					t.Fatalf("after %q and Close, Write(%q) = %U, %d held", s[:i], later, got, closed.Held())
				}
				end(t, closed, fresh.Close()...)
			}
		}
	}
}

// TestShortStrings has all strings of up to two bytes, and all of up to four of the bytes at the borders of what an
// encoding may have at some place.
func TestShortStrings(t *testing.T) { // P6.1, P6.2, P6.3
	g := theGrammar()
	for b := range 256 {
		for c := range 256 {
			g.agrees(t, string([]byte{byte(b), byte(c)}))
		}
	}
	var extend func(s string, more int)
	extend = func(s string, more int) {
		g.agrees(t, s)
		if more == 0 {
			return
		}
		for _, b := range []byte("a\x7f\x80\x8f\x90\x9f\xa0\xbf\xc0\xc2\xe0\xe1\xed\xef\xf0\xf3\xf4\xf5") {
			extend(s+string([]byte{b}), more-1)
		}
	}
	extend("", 4)
}

// TestSplits splits the samples in all ways into up to three pieces.
func TestSplits(t *testing.T) { // P6.2, P6.3
	g := theGrammar()
	for _, s := range append(slices.Clone(samples), invalid...) {
		g.agrees(t, s)
		for i := range len(s) + 1 {
			for j := i; j <= len(s); j++ {
				g.split(t, s, i, j)
			}
		}
	}
}

// TestPiecesOfEachSize splits longer strings into pieces of one size.
func TestPiecesOfEachSize(t *testing.T) { // P6.2, P6.3
	g := theGrammar()
	s := strings.Join(samples, "") + strings.Join(invalid, "") + strings.Join(samples, "\xf0\x9f")
	for _, s := range []string{s, s + "\xe2", s + "\xe2\x82", s + "\xf0\x9f\x98"} {
		for n := 1; n <= len(s); n++ {
			ends := []int{}
			for end := n; end < len(s); end += n {
				ends = append(ends, end)
			}
			g.split(t, s, ends...)
		}
	}
}

// TestManyStrings splits longer strings at places that a simple rule chooses, as it does the parts of the strings.
func TestManyStrings(t *testing.T) { // P6.1, P6.2, P6.3
	g, seed := theGrammar(), uint32(1)
	next := func(n int) int {
		seed = seed*1664525 + 1013904223
		return int(seed>>8) % n
	}
	valid := 0
	for range 1500 {
		s, broken := "", next(3) > 0
		for range next(20) {
			r := rune(next(formLimits[1+next(3)]))
			if next(4) == 0 {
				r = rune(0x10000 + next(0x100000))
			}
			if part := runes.Encode(r); broken {
				s += part[next(2)*next(len(part)):][:1]
				s += part[:next(len(part)+1)]
			} else {
				s += part
			}
		}
		if runes.Valid(s) {
			valid++
		}
		g.agrees(t, s)
		ends := []int{}
		for end := next(6); end < len(s); end += next(6) {
			ends = append(ends, end)
		}
		g.split(t, s, ends...)
	}
	if valid < 300 || valid > 1200 {
		t.Errorf("%d valid strings", valid)
	}
}

// TestDecodeInvertsEncode has lists of runes, also of some that have no encoding.
func TestDecodeInvertsEncode(t *testing.T) { // P6.1
	for _, l := range [][]rune{{}, {0}, {'a', 0x7ff, 0xffff, last}, {wrong, 0, wrong}, {0x800, 0xe000, 0x10000, 0x80}} {
		s := runes.Encode(l...)
		decode(t, s, l)
		if !runes.Valid(s) {
			t.Errorf("Encode(%U) = %q is not valid", l, s)
		}
	}
	l := []rune{'a', -1, 0xd800, 'b', last + 1, 0xdfff}
	s := runes.Encode(l...)
	decode(t, s, []rune{'a', wrong, wrong, 'b', wrong, wrong})
	if !runes.Valid(s) {
		t.Errorf("Encode(%U) = %q is not valid", l, s)
	}
}

func TestManyBytes(t *testing.T) { // P6.1, P6.2, P6.3
	const n = 1 << 17
	s := strings.Repeat("\u00e4\u20ac\U0001f600x\xff", n)
	want := slices.Repeat([]rune{0xe4, 0x20ac, 0x1f600, 'x', wrong}, n)
	decode(t, s, want)
	encode(t, strings.ReplaceAll(s, "\xff", encodedWrong), want...)
	d := runes.New()
	write(t, d, s, 0, want...)
	write(t, d, s+"\xf0\x9f\x98", 3, want...)
	end(t, d, repeat(3)...)
	held := strings.Repeat("\xf0\x9f\x98", n)
	write(t, d, held, 3, repeat(len(held)-3)...)
	end(t, d, repeat(3)...)
}

// TestArgumentOfWriteMayChangeLater also looks at what lies beyond the length of the argument.
func TestArgumentOfWriteMayChangeLater(t *testing.T) { // P6.2, rule 4
	for _, s := range append(slices.Clone(samples), invalid...) {
		for _, n := range []int{1, 2, 3, 4, max(1, len(s))} {
			d := runes.New()
			var all []rune
			for piece := range slices.Chunk([]byte(s), n) {
				memory := append(slices.Clone(piece), "\x80\x80\x80spare"...)
				all = append(all, d.Write(memory[:len(piece)])...)
				if string(memory) != string(piece)+"\x80\x80\x80spare" {
					t.Fatalf("Write(%q) modified its argument", piece)
				}
				clear(memory)
			}
			all = append(all, d.Close()...)
			if want := runes.Decode(s); !slices.Equal(all, want) {
				t.Fatalf("%q in pieces of %d bytes: %U; want %U", s, n, all, want)
			}
		}
	}
}

// spoil overwrites a result and its spare capacity.
func spoil(l []rune) {
	l = l[:cap(l)]
	for i := range l {
		l[i] = '#'
	}
}

// TestResultsOfADecoderAreOnesOwn changes the results of Write and Close, and keeps others while the decoder goes on.
func TestResultsOfADecoderAreOnesOwn(t *testing.T) { // P6.2, rule 4
	for _, s := range append(slices.Clone(samples), invalid...) {
		for n := 1; n <= 3; n++ {
			d, undisturbed := runes.New(), runes.New()
			kept, want := [][]rune{}, [][]rune{}
			keep := func(got, wanted []rune) {
				if !slices.Equal(got, wanted) || d.Held() != undisturbed.Held() {
					t.Fatalf("%q in pieces of %d bytes: %U, %d held; want %U, %d held", s, n, got, d.Held(), wanted, undisturbed.Held())
				}
				kept, want = append(kept, got), append(want, slices.Clone(wanted))
				if len(kept)%2 == 0 {
					spoil(kept[len(kept)-1])
					kept[len(kept)-1] = nil
				}
			}
			for range 2 {
				for piece := range slices.Chunk([]byte(s), n) {
					keep(d.Write(piece), undisturbed.Write(piece))
				}
				keep(d.Close(), undisturbed.Close())
			}
			for i, l := range kept {
				if l != nil && !slices.Equal(l, want[i]) {
					t.Fatalf("%q in pieces of %d bytes: result %d became %U; it was %U", s, n, i, l, want[i])
				}
			}
		}
	}
}

func TestResultsOfDecodeAreOnesOwn(t *testing.T) { // P6.1, rule 4
	for _, s := range append(slices.Clone(samples), invalid...) {
		first, second := runes.Decode(s), runes.Decode(s)
		want := slices.Clone(second)
		spoil(first)
		if !slices.Equal(second, want) {
			t.Fatalf("Decode(%q): a change of the result made another one %U", s, second)
		}
		decode(t, s, want)
	}
}

// TestArgumentOfEncodeMayChangeLater also looks at what lies beyond the length of the argument.
func TestArgumentOfEncodeMayChangeLater(t *testing.T) { // P6.1, rule 4
	for _, s := range append(slices.Clone(samples), invalid...) {
		l := append(runes.Decode(s), -1, 0xd800, last+1)
		memory := append(slices.Clone(l), 's', 'p', 'a', 'r', 'e')
		got := runes.Encode(memory[:len(l)]...)
		if !slices.Equal(memory, append(slices.Clone(l), 's', 'p', 'a', 'r', 'e')) {
			t.Fatalf("Encode(%U) made its argument %U", l, memory)
		}
		want := runes.Encode(l...)
		spoil(memory)
		if got != want {
			t.Fatalf("Encode(%U): a later change of the argument made the result %q", l, got)
		}
	}
}

func TestDecodersAreIndependent(t *testing.T) { // P2
	a, b := runes.New(), runes.New()
	write(t, a, "\xe2\x82", 2)
	write(t, b, "\xac", 0, wrong)
	write(t, b, "\xf0\x9f\x98", 3)
	write(t, runes.New(), "", 0)
	write(t, a, "\xac\xc3", 1, 0x20ac)
	decode(t, "\xf0", []rune{wrong})
	end(t, a, wrong)
	write(t, b, "\x80", 0, 0x1f600)
	end(t, b)
}
