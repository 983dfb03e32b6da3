package escape_test

import (
	"fmt"
	"math"
	"slices"
	"strings"
	"testing"
	"unicode/utf8"

	"tmplpipe/api"
	"tmplpipe/escape"
	"tmplpipe/runes"
)

const (
	encodedWrong = "\xef\xbf\xbd" // the encoding of U+FFFD
	wrongInURL   = "%EF%BF%BD"    // its escaped form for a URL
	last         = rune(0x10ffff) // the last code point
	letters      = "ABCDEFGHIJKLMNOPQRSTUVWXYZabcdefghijklmnopqrstuvwxyz"
	keptInURL    = letters + "0123456789-._~"
)

var escapers = []int{api.EscText, api.EscAttr, api.EscURL, api.EscJS, api.EscCSS}

// noEscapers are numbers of which none is an escaper.
var noEscapers = []int{-1, -2, -5, math.MinInt, math.MinInt + 1, math.MinInt32, -1 << 8, 5, 6, 7, 255, 256, 260, 1 << 16,
	math.MaxInt32, 1 << 32, 1<<32 + 4, math.MaxInt - 1, math.MaxInt}

// codePoint returns the code point that a rune is treated as.
func codePoint(r rune) rune {
	if r < 0 || r > last || r >= 0xd800 && r <= 0xdfff {
		return 0xfffd
	}
	return r
}

func isControl(r rune) bool { return r >= 0 && r <= 31 || r == 127 }

// inText and inAttr are the escaped forms that are not encodings.
var (
	inText = map[rune]string{0: encodedWrong, '&': "&amp;", '<': "&lt;", '>': "&gt;", '"': "&#34;", '\'': "&#39;"}
	inAttr = map[rune]string{0: encodedWrong, '&': "&amp;", '<': "&lt;", '>': "&gt;", '"': "&#34;", '\'': "&#39;",
		'`': "&#96;", '=': "&#61;"}
)

// form says what the chapter calls the escaped form of r.
func form(esc int, r rune) string {
	r = codePoint(r)
	plain := string(r)
	switch esc {
	case api.EscText:
		if f, found := inText[r]; found {
			return f
		}
	case api.EscAttr:
		if f, found := inAttr[r]; found {
			return f
		}
	case api.EscURL:
		if !strings.Contains(keptInURL, plain) {
			s := ""
			for _, b := range []byte(plain) {
				s += fmt.Sprintf("%%%02X", b)
			}
			return s
		}
	case api.EscJS:
		if isControl(r) || r == 0x2028 || r == 0x2029 || strings.Contains("\"&'/<=>\\`", plain) {
			return fmt.Sprintf("\\u%04x", r)
		}
	case api.EscCSS:
		if r == 0 {
			return encodedWrong
		}
		if isControl(r) || strings.Contains("\"&'()/:;<>\\{}", plain) {
			return fmt.Sprintf("\\%x ", r)
		}
	}
	return plain
}

// forms says what the chapter calls the concatenation of the escaped forms of the runes of s.
func forms(esc int, s string) string {
	all := ""
	for _, r := range runes.Decode(s) {
		all += form(esc, r)
	}
	return all
}

// permits says whether the chapter permits r in a string that is safe for esc.
func permits(esc int, r rune) bool {
	s := string(r)
	switch esc {
	case api.EscText:
		return !strings.Contains("<>\"'\x00", s)
	case api.EscAttr:
		return !strings.Contains("<>\"'\x00`=", s)
	case api.EscURL:
		return strings.Contains(keptInURL+"%", s)
	case api.EscJS:
		return !isControl(r) && !strings.Contains("\"&'/<=>`\u2028\u2029", s)
	}
	return !isControl(r) && !strings.Contains("\"&'()/:;<>{}", s)
}

// escapedRune compares the result of Rune with what is wanted. It is called often, and Helper is slow.
func escapedRune(t *testing.T, esc int, r rune, want string) {
	if got, err := escape.Rune(esc, r); got != want || err != api.OK {
		t.Helper()
		t.Fatalf("Rune(%d, %U) = %.40q, %v; want %.40q", esc, r, got, err, want)
	}
}

// escaped compares the result of Escape with what is wanted, and checks that it is safe.
func escaped(t *testing.T, esc int, s, want string) {
	got, err := escape.Escape(esc, s)
	if got != want || err != api.OK || !escape.Safe(esc, got) {
		t.Helper()
		t.Fatalf("Escape(%d, %.40q) = %.40q, %v, safe: %v; want %.40q", esc, s, got, err, escape.Safe(esc, got), want)
	}
}

func safe(t *testing.T, esc int, s string, want bool) {
	if got := escape.Safe(esc, s); got != want {
		t.Helper()
		t.Fatalf("Safe(%d, %.40q) = %v", esc, s, got)
	}
}

// boundaries are the first and the last rune of each length of encoding, those around the surrogates, those around the
// line separators, and some in between, with the bytes of their encodings for a URL.
var boundaries = []struct {
	r   rune
	url string
}{
	{0, "%00"}, {0x7f, "%7F"},
	{0x80, "%C2%80"}, {0x7ff, "%DF%BF"}, {0xe4, "%C3%A4"},
	{0x800, "%E0%A0%80"}, {0xd7ff, "%ED%9F%BF"}, {0xe000, "%EE%80%80"}, {0xffff, "%EF%BF%BF"}, {0x20ac, "%E2%82%AC"},
	{0x10000, "%F0%90%80%80"}, {0x10ffff, "%F4%8F%BF%BF"}, {0x1f600, "%F0%9F%98%80"},
	{0x2027, "%E2%80%A7"}, {0x2028, "%E2%80%A8"}, {0x2029, "%E2%80%A9"}, {0x202a, "%E2%80%AA"},
	{0xfffc, "%EF%BF%BC"}, {0xfffd, wrongInURL}, {0xfffe, "%EF%BF%BE"}, {0xfeff, "%EF%BB%BF"},
}

// notRunes are numbers that are no code points, or surrogates.
var notRunes = []rune{-1, -2, -'a', -'<', -0x80, -0xd800, -0x10ffff, -0x110000, math.MinInt32, math.MinInt32 + 1,
	math.MinInt32 + 'a', 0xd800, 0xd801, 0xdbff, 0xdc00, 0xdffe, 0xdfff, 0x110000, 0x110001, 0x110041, 0x1fffff, 0x200000,
	math.MaxInt32 - 1, math.MaxInt32}

// invalid are strings of which every byte is decoded as U+FFFD.
var invalid = []string{
	"\x80", "\xbf", "\xc0", "\xc1", "\xf5", "\xfe", "\xff", "\xff\xff",
	"\xc0\xbc", "\xe0\x80\xbc", "\xf0\x80\x80\xbc", "\xc1\xbf", // too long; the first three are forms of <
	"\xed\xa0\x80", "\xed\xbf\xbf", "\xed\xa0\xbd\xed\xb8\x80", "\xf4\x90\x80\x80",
	"\xc2", "\xe2", "\xe2\x80", "\xf0", "\xf0\x9f", "\xf0\x9f\x98", "\xef\xbf", // cut off
}

// samples are strings that are valid UTF-8, with characters that are escaped at several places.
var samples = []string{
	"", "a", "&", "<", "\x00", "%", "\\", "\u2028", encodedWrong, "a<b", "<a>", "a b", "&amp;", "&#34;", "%3C", "%", "%2",
	"\\u003c", "\\u", "\\3c ", "\\3c", "\x00\x00", "a\x00b", "\x7f\x1f !\"#$%&'()*+,-./:;<=>?@[\\]^_`{|}~",
	"\u00e4\u20ac\U0001f600x", "\u2027\u2028\u2029\u202a", "\ufeff\ufffd\uffff\U0010ffff",
	"javascript:alert('x')", "</script>", "</style>", "a=\"b\" c='d' e=`f`", "\r\n\t\v", "url(/a;b:c){}",
	keptInURL,
}

func TestExamples(t *testing.T) { // P7.1, P7.2
	escaped(t, api.EscText, "a<b", "a&lt;b")
	escaped(t, api.EscURL, "a b", "a%20b")
	escaped(t, api.EscJS, `"`, "\\u0022")
	escaped(t, api.EscCSS, `"`, "\\22 ")
	escaped(t, api.EscText, "<", "&lt;")
	escaped(t, api.EscURL, "<", "%3C")
	escapedRune(t, api.EscText, '&', "&amp;")
	escapedRune(t, api.EscText, '"', "&#34;")
	safe(t, api.EscText, "a&lt;b", true)
	safe(t, api.EscText, "a<b", false)
}

// TestSpecialCharacters writes down every form of an ASCII character that occurs in the chapter.
func TestSpecialCharacters(t *testing.T) { // P7.1, P7.2
	signs := "\"&'()/:;<=>\\`{}"
	for esc, all := range map[int]string{
		api.EscText: `&#34;|&amp;|&#39;|(|)|/|:|;|&lt;|=|&gt;|\|` + "`" + `|{|}`,
		api.EscAttr: `&#34;|&amp;|&#39;|(|)|/|:|;|&lt;|&#61;|&gt;|\|&#96;|{|}`,
		api.EscURL:  `%22|%26|%27|%28|%29|%2F|%3A|%3B|%3C|%3D|%3E|%5C|%60|%7B|%7D`,
		api.EscJS:   `\u0022|\u0026|\u0027|(|)|\u002f|:|;|\u003c|\u003d|\u003e|\u005c|\u0060|{|}`,
		api.EscCSS:  `\22 |\26 |\27 |\28 |\29 |\2f |\3a |\3b |\3c |=|\3e |\5c |` + "`" + `|\7b |\7d `,
	} {
		for i, want := range strings.Split(all, "|") {
			escapedRune(t, esc, rune(signs[i]), want)
		}
		escaped(t, esc, signs, strings.ReplaceAll(all, "|", ""))
	}
}

func TestControlCharacters(t *testing.T) { // P7.1, P7.2
	controls := "\x00\x01\t\n\v\r\x0f\x10\x1f\x7f\u0080"
	escaped(t, api.EscText, controls, encodedWrong+controls[1:])
	escaped(t, api.EscAttr, controls, encodedWrong+controls[1:])
	escaped(t, api.EscURL, controls, "%00%01%09%0A%0B%0D%0F%10%1F%7F%C2%80")
	escaped(t, api.EscJS, controls, `\u0000\u0001\u0009\u000a\u000b\u000d\u000f\u0010\u001f\u007f`+"\u0080")
	escaped(t, api.EscCSS, controls, encodedWrong+`\1 \9 \a \b \d \f \10 \1f \7f `+"\u0080")
}

// TestZero has the rune 0 alone and beside others.
func TestZero(t *testing.T) { // P7.1, P7.2, P7.3
	for esc, want := range []string{encodedWrong, encodedWrong, "%00", "\\u0000", encodedWrong} {
		escapedRune(t, esc, 0, want)
		escaped(t, esc, "\x00", want)
		escaped(t, esc, "a\x00", "a"+want)
		escaped(t, esc, "\x00a\x00\x00", want+"a"+want+want)
		safe(t, esc, "\x00", false)
		safe(t, esc, "a\x00b", false)
	}
}

func TestCharactersThatURLsKeep(t *testing.T) { // P7.1, P7.2
	for _, r := range keptInURL {
		escapedRune(t, api.EscURL, r, string(r))
	}
	escaped(t, api.EscURL, keptInURL, keptInURL)
	escaped(t, api.EscURL, "!#$*+,?@[]^|% ", "%21%23%24%2A%2B%2C%3F%40%5B%5D%5E%7C%25%20")
	// Letters and digits that are not ASCII, and the neighbours of the ranges.
	escaped(t, api.EscURL, "\u00e4\u0660\uff21/:@[`{", "%C3%A4%D9%A0%EF%BC%A1%2F%3A%40%5B%60%7B")
}

func TestLineSeparators(t *testing.T) { // P7.1, P7.2, P7.3
	all := "\u2027\u2028\u2029\u202a"
	for _, esc := range []int{api.EscText, api.EscAttr, api.EscCSS} {
		escaped(t, esc, all, all)
	}
	escaped(t, api.EscJS, all, "\u2027\\u2028\\u2029\u202a")
	safe(t, api.EscJS, "\u2027\u202a", true)
	safe(t, api.EscJS, "\u2028", false)
	safe(t, api.EscJS, "a\u2029", false)
}

func TestBoundaries(t *testing.T) { // P7.1, P7.2
	for _, c := range boundaries {
		escapedRune(t, api.EscURL, c.r, c.url)
		escaped(t, api.EscURL, string([]rune{c.r, 'a', c.r}), c.url+"a"+c.url)
		for _, esc := range escapers {
			escapedRune(t, esc, c.r, form(esc, c.r))
		}
		if c.r < 0x80 || c.r == 0x2028 || c.r == 0x2029 {
			continue
		}
		for _, esc := range []int{api.EscText, api.EscAttr, api.EscJS, api.EscCSS} {
			escapedRune(t, esc, c.r, string(c.r))
		}
	}
}

// TestEachRune has all code points and surrogates. Those below 128 are among them.
func TestEachRune(t *testing.T) { // P7.1, P7.2, P7.3, P7.4
	for _, esc := range escapers {
		for r := range last + 1 {
			want, s := form(esc, r), string(r)
			escapedRune(t, esc, r, want)
			if r < 0x3000 || r >= 0xd000 && r < 0xf000 || r%61 == 0 {
				escaped(t, esc, s, want)
			}
			safe(t, esc, s, permits(esc, codePoint(r)))
		}
	}
}

func TestNotRunes(t *testing.T) { // P7.1
	for _, r := range notRunes {
		for esc, want := range []string{encodedWrong, encodedWrong, wrongInURL, encodedWrong, encodedWrong} {
			escapedRune(t, esc, r, want)
		}
	}
}

func TestNoEscaper(t *testing.T) { // P7.1, P7.2, P7.3
	for _, esc := range noEscapers {
		for _, r := range append([]rune{0, 'a', '<', '&', 0x20ac, 0x2028, 0xfffd, last}, notRunes...) {
			if s, err := escape.Rune(esc, r); s != "" || err != api.ErrArg {
				t.Fatalf("Rune(%d, %U) = %q, %v", esc, r, s, err)
			}
		}
		for _, s := range slices.Concat(samples, invalid) {
			if got, err := escape.Escape(esc, s); got != "" || err != api.ErrArg {
				t.Fatalf("Escape(%d, %q) = %q, %v", esc, s, got, err)
			}
			safe(t, esc, s, false)
		}
	}
}

func TestSamples(t *testing.T) { // P7.2, P7.4
	for _, esc := range escapers {
		escaped(t, esc, "", "")
		for _, s := range samples {
			escaped(t, esc, s, forms(esc, s))
		}
	}
}

// TestEachPlace has each ASCII character and each boundary at the start, in the middle and at the end of a string.
func TestEachPlace(t *testing.T) { // P7.2, P7.3
	list := []rune{}
	for r := range rune(128) {
		list = append(list, r)
	}
	for _, c := range boundaries {
		list = append(list, c.r)
	}
	for _, esc := range escapers {
		for _, r := range list {
			s, f, ok := string(r), form(esc, r), permits(esc, r)
			for _, a := range []string{"x", "xy", "x%41", "0"} {
				other := forms(esc, a)
				escaped(t, esc, s+a, f+other)
				escaped(t, esc, a+s+a, other+f+other)
				escaped(t, esc, a+s, other+f)
				escaped(t, esc, s+s+a+s, f+f+other+f)
				safe(t, esc, s+a, ok)
				safe(t, esc, a+s+a, ok)
				safe(t, esc, a+s, ok)
			}
		}
	}
}

// TestInvalidUTF8 also has the invalid bytes around other characters.
func TestInvalidUTF8(t *testing.T) { // P7.2, P7.3
	for esc, wrong := range []string{encodedWrong, encodedWrong, wrongInURL, encodedWrong, encodedWrong} {
		for _, s := range invalid {
			want := strings.Repeat(wrong, len(s))
			escaped(t, esc, s, want)
			safe(t, esc, s, false)
			for _, a := range []string{"a", "<", "\x00", "%", "\\", "&", "\u2028", "\U0001f600"} {
				f := forms(esc, a)
				escaped(t, esc, a+s, f+want)
				escaped(t, esc, s+a, want+f)
				escaped(t, esc, a+s+a, f+want+f)
				safe(t, esc, a+s, false)
				safe(t, esc, s+a, false)
				safe(t, esc, a+s+a, false)
			}
		}
	}
	escaped(t, api.EscText, "a\xff<\xe2\x82", "a"+encodedWrong+"&lt;"+encodedWrong+encodedWrong)
	escaped(t, api.EscJS, "\xe2\x80\xa8\xe2\x80", "\\u2028"+encodedWrong+encodedWrong)
}

// TestSafeCharacters writes down, for each escaper, which ASCII characters a safe string does not contain.
func TestSafeCharacters(t *testing.T) { // P7.3
	controls := "\x7f"
	for r := range rune(32) {
		controls += string(r)
	}
	ascii := ""
	for r := range rune(128) {
		ascii += string(r)
	}
	for esc, bad := range []string{
		"<>\"'\x00",
		"<>\"'\x00`=",
		controls + " !\"#$&'()*+,/:;<=>?@[\\]^`{|}",
		controls + "\"&'/<=>`\u2028\u2029",
		controls + "\"&'()/:;<>{}",
	} {
		good := ""
		for _, r := range ascii {
			isGood := !strings.ContainsRune(bad, r)
			safe(t, esc, string(r), isGood)
			if isGood {
				good += string(r)
			}
		}
		safe(t, esc, "", true)
		safe(t, esc, good, true)
		for _, r := range bad {
			safe(t, esc, string(r), false)
			safe(t, esc, good+string(r), false)
			safe(t, esc, string(r)+good, false)
			safe(t, esc, good+string(r)+good, false)
		}
	}
}

// TestSafeIsNoSyntaxCheck has characters that begin escaped forms without one behind them.
func TestSafeIsNoSyntaxCheck(t *testing.T) { // P7.3
	for _, s := range []string{"%", "%%", "%2", "%zz", "a%", "%3c"} {
		safe(t, api.EscURL, s, true)
	}
	for _, s := range []string{"&", "&&", "&a", "&#", "&lt", "&amp;", "\\", "\u2028"} {
		safe(t, api.EscText, s, true)
		safe(t, api.EscAttr, s, true)
	}
	for _, s := range []string{"\\", "\\\\", "\\u", "\\u12", "\\x", "\\22", "\\22 "} {
		safe(t, api.EscJS, s, true)
		safe(t, api.EscCSS, s, true)
	}
	safe(t, api.EscCSS, "\u2028=`", true)
	safe(t, api.EscJS, "():;{}", true)
	safe(t, api.EscText, "`=", true)
	for _, esc := range []int{api.EscText, api.EscAttr, api.EscJS, api.EscCSS} {
		safe(t, esc, "\u00e4\u20ac\U0001f600\ufffd", true)
	}
	safe(t, api.EscURL, "\u00e4", false)
	safe(t, api.EscURL, encodedWrong, false)
}

// TestTwoBytes has all strings of two bytes.
func TestTwoBytes(t *testing.T) { // P7.2, P7.3, P7.4
	for _, esc := range escapers {
		for i := range 1 << 16 {
			s := string([]byte{byte(i >> 8), byte(i)})
			escaped(t, esc, s, forms(esc, s))
			ok := utf8.ValidString(s)
			for _, r := range s {
				ok = ok && permits(esc, r)
			}
			safe(t, esc, s, ok)
		}
	}
}

// TestEscapedAgain escapes results of each escaper with each escaper.
func TestEscapedAgain(t *testing.T) { // P7.2, P7.4
	for _, first := range escapers {
		for _, esc := range escapers {
			for _, s := range slices.Concat(samples, invalid) {
				s, _ = escape.Escape(first, s)
				escaped(t, esc, s, forms(esc, s))
			}
		}
	}
	escaped(t, api.EscText, "&amp;", "&amp;amp;")
	escaped(t, api.EscURL, "%3C", "%253C")
	escaped(t, api.EscJS, "\\u003c", "\\u005cu003c")
	escaped(t, api.EscCSS, "\\3c ", "\\5c 3c ")
}

// concatenated checks that escaping two strings one after the other is the same as escaping their concatenation.
func concatenated(t *testing.T, esc int, a, b string) {
	t.Helper()
	first, _ := escape.Escape(esc, a)
	second, _ := escape.Escape(esc, b)
	escaped(t, esc, a+b, first+second)
}

func TestConcatenation(t *testing.T) { // P7.4
	for _, esc := range escapers {
		for _, a := range samples {
			for _, b := range slices.Concat(samples, invalid) {
				concatenated(t, esc, a, b)
			}
		}
	}
}

// TestRandomStrings has strings of pieces of each kind, also in two parts, of which the first is valid UTF-8.
func TestRandomStrings(t *testing.T) { // P7.2, P7.3, P7.4
	pieces := append(slices.Clone(samples), "&", "<", "a", "%", "\\", "\u20ac", "\xe2", "\x80", "\xff")
	seed := uint32(7)
	next := func(n int) int {
		seed = seed*1664525 + 1013904223
		return int(seed>>8) % n
	}
	for range 4000 {
		a, b := "", ""
		for range next(6) {
			a += samples[next(len(samples))]
		}
		for range next(6) {
			b += pieces[next(len(pieces))]
		}
		for _, esc := range escapers {
			escaped(t, esc, b, forms(esc, b))
			concatenated(t, esc, a, b)
			ok := utf8.ValidString(a + b)
			for _, r := range a + b {
				ok = ok && permits(esc, r)
			}
			safe(t, esc, a+b, ok)
		}
	}
}

func TestLongStrings(t *testing.T) { // P7.2, P7.3
	const n = 100000
	for _, esc := range escapers {
		for _, s := range []string{"a", "<", "\x00", "\u2028", "\xff", "\U0001f600&"} {
			escaped(t, esc, strings.Repeat(s, n), strings.Repeat(forms(esc, s), n))
		}
		safe(t, esc, strings.Repeat("a", n), true)
		safe(t, esc, strings.Repeat("a", n)+"\"", false)
		safe(t, esc, strings.Repeat("a", n)+"\xc3", false)
		safe(t, esc, "\""+strings.Repeat("a", n), false)
	}
}
