package hexline_test

import (
	"bytes"
	"fmt"
	"math"
	"strings"
	"testing"

	"tmplpipe/api"
	"tmplpipe/hexline"
)

// followers are bytes that may come after a line, among them such as a line contains.
var followers = []string{"", "0", "1a", "\r", "\n", "\r\n", "0\r\n", "10000\r\n", "g", " ", ";x=1\r\n", "\x00", "\x80", "\xff", "é"}

// line returns the line for n, as the chapter describes it.
func line(n int) string { return fmt.Sprintf("%x\r\n", n) }

// parse compares the result of Parse with what is wanted.
func parse(t *testing.T, b string, n, length int, e api.Errno) {
	t.Helper()
	if gotN, gotLength, gotE := hexline.Parse([]byte(b)); gotN != n || gotLength != length || gotE != e {
		t.Fatalf("Parse(%.40q) = %d, %d, %v; want %d, %d, %v", b, gotN, gotLength, gotE, n, length, e)
	}
}

// format compares the result of Format with the line that is wanted.
func format(t *testing.T, n int, want string) {
	t.Helper()
	if got, e := hexline.Format(n); string(got) != want || e != api.OK {
		t.Fatalf("Format(%d) = %q, %v; want %q", n, got, e, want)
	}
}

func TestFormat(t *testing.T) { // P3.1
	for n, want := range map[int]string{
		0: "0\r\n", 1: "1\r\n", 9: "9\r\n", 10: "a\r\n", 15: "f\r\n", 16: "10\r\n", 26: "1a\r\n", 255: "ff\r\n", 256: "100\r\n",
		4095: "fff\r\n", 4096: "1000\r\n", 48879: "beef\r\n", 65535: "ffff\r\n", 65536: "10000\r\n",
	} {
		format(t, n, want)
	}
}

func TestFormatOfEachSize(t *testing.T) { // P3.1
	for n := range api.MaxChunk + 1 {
		format(t, n, line(n))
	}
}

func TestFormatOutOfRange(t *testing.T) { // P3.1
	for _, n := range []int{-1, -2, -26, -65536, math.MinInt, math.MinInt + 1, 65537, 65538, 1 << 20, 1 << 31, 1 << 32,
		1<<32 + 26, math.MaxInt - 1, math.MaxInt} {
		if b, e := hexline.Format(n); len(b) != 0 || e != api.ErrRange {
			t.Errorf("Format(%d) = %q, %v", n, b, e)
		}
	}
}

// TestResultOfFormatIsOnesOwn changes one result and its spare capacity.
func TestResultOfFormatIsOnesOwn(t *testing.T) { // P3.1, rule 4
	for _, n := range []int{0, 5, 26, api.MaxChunk} {
		first, _ := hexline.Format(n)
		second, _ := hexline.Format(n)
		clear(first[:cap(first)])
		if string(second) != line(n) {
			t.Errorf("a change of one result made the other %q", second)
		}
		format(t, n, line(n))
		parse(t, line(n), n, len(line(n)), api.OK)
	}
}

// TestParseInvertsFormat tries each size, and after each line some other bytes.
func TestParseInvertsFormat(t *testing.T) { // P3.2, P3.3
	for n := range api.MaxChunk + 1 {
		b, e := hexline.Format(n)
		if e != api.OK {
			t.Fatalf("Format(%d): %v", n, e)
		}
		for _, after := range followers {
			parse(t, string(b)+after, n, len(b), api.OK)
		}
	}
}

// TestProperPrefixes tries each proper prefix of the line for each size.
func TestProperPrefixes(t *testing.T) { // P3.2
	for n := range api.MaxChunk + 1 {
		for length := range len(line(n)) {
			parse(t, line(n)[:length], 0, 0, api.ErrTruncated)
		}
	}
	if n, length, e := hexline.Parse(nil); n != 0 || length != 0 || e != api.ErrTruncated {
		t.Errorf("Parse(nil) = %d, %d, %v", n, length, e)
	}
}

func TestTruncated(t *testing.T) { // P3.2
	for _, b := range []string{"", "0", "0\r", "1", "1\r", "1a", "1a\r", "f", "ff", "fff", "ffff", "ffff\r", "1000", "10000", "10000\r"} {
		parse(t, b, 0, 0, api.ErrTruncated)
	}
}

func TestSyntax(t *testing.T) { // P3.2
	for _, b := range []string{
		"1A", "A", "F", "A\r\n", "1A\r\n", "aA\r\n", "1B", "FF\r\n", // upper-case digits
		"00", "01", "0a", "00\r\n", "01\r\n", "01a\r\n", "000000", "0000001\r\n", "00000", // leading zeros
		"\r", "\r\n", "\r\n0\r\n", "\n", // no digit
		"0\r0", "1\ra", "1\r\r", "1\r\r\n", "1\r \n", "1a\r\x00", "10000\rx", // a carriage return that no newline follows
		"1\n", "0\n", "10000\n", // no carriage return
		"10001", "10001\r\n", "10000a", "100000", "100000\r\n", "1ffff", "11000", "20000", "20000\r\n", "fffff", "fffff\r\n", // too great
		"12345678\r\n", "7fffffffffffffff", "8000000000000000", "ffffffffffffffff", "10000000000000000", "1000000000000001a\r\n",
		"g", "1g", "G", "x", "0x1a\r\n", "1h\r\n", "-1\r\n", "+1\r\n", "1.0\r\n", "1_0\r\n", "1;x=1\r\n", "1;\r\n", // other bytes
		" ", " 1\r\n", "1 ", "1 \r\n", "\t1\r\n", "1\t\r\n", "\x001\r\n", "1\x00", "/", ":", "`", "@", "0/", "9:", "a`",
		"\x80", "1\x80", "\xff\r\n", "1\xff\r\n", "é", "1é\r\n", "\uff11\r\n", "\u0661", "1\u0661\r\n", "\xef\xbf\xbd", "1\xef\xbf\xbd", // beyond ASCII
	} {
		parse(t, b, 0, 0, api.ErrSyntax)
	}
}

func TestManyDigits(t *testing.T) { // P3.2
	for _, digit := range "0123456789abcdef" {
		for _, length := range []int{6, 8, 15, 16, 17, 18, 31, 32, 33, 64, 1000, 1 << 20} {
			digits := strings.Repeat(string(digit), length)
			for _, after := range []string{"", "\r", "\r\n", "\r\n0", "g", "A"} {
				parse(t, digits+after, 0, 0, api.ErrSyntax)
			}
		}
	}
}

// TestDigitsAfterOverflow has digits whose number is small again if the multiplication wraps around.
func TestDigitsAfterOverflow(t *testing.T) { // P3.2
	for _, zeros := range []int{5, 7, 8, 15, 16, 31, 100} {
		for _, first := range []string{"1", "8", "f"} {
			for _, last := range []string{"", "0", "1", "1a", "ffff"} {
				digits := first + strings.Repeat("0", zeros) + last
				parse(t, digits, 0, 0, api.ErrSyntax)
				parse(t, digits+"\r\n", 0, 0, api.ErrSyntax)
			}
		}
	}
}

// TestEachByte tries each byte at each place of a line and behind each of its prefixes.
func TestEachByte(t *testing.T) { // P3.2
	known := newLines()
	for _, l := range []string{"0\r\n", "1a\r\n", "ffff\r\n", "10000\r\n"} {
		for at := range len(l) {
			for c := range 256 {
				known.parse(t, l[:at]+string([]byte{byte(c)}))
				known.parse(t, l[:at]+string([]byte{byte(c)})+l[at+1:])
				known.parse(t, l[:at]+string([]byte{byte(c)})+l[at:])
			}
		}
	}
}

// lines are all lines and all of their proper prefixes.
type lines struct {
	sizes    map[string]int
	prefixes map[string]bool
}

func newLines() lines {
	l := lines{map[string]int{}, map[string]bool{}}
	for n := range api.MaxChunk + 1 {
		l.sizes[line(n)] = n
		for length := range len(line(n)) {
			l.prefixes[line(n)[:length]] = true
		}
	}
	return l
}

// parse compares the result of Parse with the promise, which is looked up.
func (l lines) parse(t *testing.T, b string) {
	t.Helper()
	for length := range len(b) + 1 {
		if n, ok := l.sizes[b[:length]]; ok {
			parse(t, b, n, length, api.OK)
			return
		}
	}
	if l.prefixes[b] {
		parse(t, b, 0, 0, api.ErrTruncated)
	} else {
		parse(t, b, 0, 0, api.ErrSyntax)
	}
}

// TestParseEverywhere tries all sequences of up to six of some bytes.
func TestParseEverywhere(t *testing.T) { // P3.2
	known := newLines()
	longest := []string{""}
	for range 6 {
		var longer []string
		for _, b := range longest {
			for _, c := range []string{"0", "1", "a", "F", "\r", "\n", "\xe0"} {
				longer = append(longer, b+c)
				known.parse(t, b+c)
			}
		}
		longest = longer
	}
}

// TestParseStaysInItsArgument has bytes beyond the length that would complete the line.
func TestParseStaysInItsArgument(t *testing.T) { // P3.2, rule 4
	b := []byte("1a\r\n0\r\n")
	for length := range 4 {
		if n, size, e := hexline.Parse(b[:length]); n != 0 || size != 0 || e != api.ErrTruncated {
			t.Errorf("Parse of the first %d bytes = %d, %d, %v", length, n, size, e)
		}
	}
	if n, size, e := hexline.Parse(b[:4]); n != 26 || size != 4 || e != api.OK {
		t.Errorf("Parse = %d, %d, %v", n, size, e)
	}
	if string(b) != "1a\r\n0\r\n" {
		t.Errorf("the argument became %q", b)
	}
}

func TestArgumentOfParseMayChangeLater(t *testing.T) { // P3.2, rule 4
	b := []byte("1a\r\n")
	hexline.Parse(b)
	copy(b, "2b")
	parse(t, "1a\r\n", 26, 4, api.OK)
	parse(t, "2b\r\n", 43, 4, api.OK)
	format(t, 26, "1a\r\n")
	if n, size, e := hexline.Parse(b); n != 43 || size != 4 || e != api.OK {
		t.Errorf("Parse of the changed argument = %d, %d, %v", n, size, e)
	}
	clear(b)
	if n, size, e := hexline.Parse(b); n != 0 || size != 0 || e != api.ErrSyntax {
		t.Errorf("Parse of zeros = %d, %d, %v", n, size, e)
	}
}

func TestManyBytesAfterTheLine(t *testing.T) { // P3.3
	for _, after := range []string{"0", "\r\n", "a", "\x80"} {
		b := "10000\r\n" + strings.Repeat(after, 1<<20)
		parse(t, b, 65536, 7, api.OK)
	}
	if got, _ := hexline.Format(65536); !bytes.Equal(got, []byte("10000\r\n")) {
		t.Errorf("Format = %q", got)
	}
}
