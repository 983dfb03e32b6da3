package framer_test

import (
	"bytes"
	"fmt"
	"math"
	"slices"
	"strings"
	"testing"

	"tmplpipe/api"
	"tmplpipe/framer"
)

const lastChunk = "0\r\n\r\n"

// chunk returns the encoding of a chunk, as the chapter describes it.
func chunk(payload string) string { return fmt.Sprintf("%x\r\n%s\r\n", len(payload), payload) }

// body returns the body whose chunks contain most bytes each, except the last one with payload.
func body(payload string, most int) string {
	out := ""
	for len(payload) > most {
		out += chunk(payload[:most])
		payload = payload[most:]
	}
	if payload != "" {
		out += chunk(payload)
	}
	return out + lastChunk
}

// letters returns n bytes that repeat only after a prime number of them, among them every byte that a line contains.
func letters(n int) string {
	out := make([]byte, n)
	for i := range out {
		out[i] = byte(i % 251)
	}
	return string(out)
}

func newFramer(t *testing.T, most int) *framer.Framer {
	t.Helper()
	f, e := framer.New(most)
	if f == nil || e != api.OK {
		t.Fatalf("New(%d) = %v, %v", most, f, e)
	}
	return f
}

// check compares all that can be observed of f without changing it.
func check(t *testing.T, f *framer.Framer, pending string, done bool) {
	t.Helper()
	if got := string(f.Pending()); got != pending || f.Done() != done {
		t.Fatalf("Pending %.40q, Done %v; want %.40q, %v", got, f.Done(), pending, done)
	}
}

func start(t *testing.T, f *framer.Framer, payload string, e api.Errno, pending string, done bool) {
	t.Helper()
	if got := f.Start([]byte(payload)); got != e {
		t.Fatalf("Start(%.40q) = %v; want %v", payload, got, e)
	}
	check(t, f, pending, done)
}

func finish(t *testing.T, f *framer.Framer, e api.Errno, pending string, done bool) {
	t.Helper()
	if got := f.Finish(); got != e {
		t.Fatalf("Finish = %v; want %v", got, e)
	}
	check(t, f, pending, done)
}

func advance(t *testing.T, f *framer.Framer, n int, e api.Errno, pending string, done bool) {
	t.Helper()
	if got := f.Advance(n); got != e {
		t.Fatalf("Advance(%d) = %v; want %v", n, got, e)
	}
	check(t, f, pending, done)
}

// refuses checks that neither a chunk nor the last chunk can become pending, whatever the payload.
func refuses(t *testing.T, f *framer.Framer, pending string, done bool) {
	t.Helper()
	for _, payload := range []string{"a", "ab", "abc", "", letters(api.MaxChunk + 1)} {
		start(t, f, payload, api.ErrState, pending, done)
	}
	finish(t, f, api.ErrState, pending, done)
}

// finished returns a framer of which the given number of bytes is left of the last chunk.
func finished(t *testing.T, left int) *framer.Framer {
	t.Helper()
	f := newFramer(t, 3)
	finish(t, f, api.OK, lastChunk, false)
	advance(t, f, len(lastChunk)-left, api.OK, lastChunk[len(lastChunk)-left:], left == 0)
	return f
}

var wrongLimits = []int{0, -1, -2, -api.MaxChunk, math.MinInt, math.MinInt + 1, api.MaxChunk + 1, api.MaxChunk + 2,
	1 << 31, 1 << 32, 1<<32 + 1, math.MaxInt - 1, math.MaxInt}

func TestNewRejectsLimitsOutOfRange(t *testing.T) { // P4.1
	for _, most := range wrongLimits {
		if f, e := framer.New(most); f != nil || e != api.ErrRange {
			t.Errorf("New(%d) = %v, %v", most, f, e)
		}
	}
}

func TestNewHasNoPendingBytes(t *testing.T) { // P4.1
	for _, most := range []int{1, 2, 3, 1000, api.MaxChunk - 1, api.MaxChunk} {
		f := newFramer(t, most)
		check(t, f, "", false)
		advance(t, f, 1, api.ErrRange, "", false)
		advance(t, f, 0, api.OK, "", false)
	}
}

func TestNilFramer(t *testing.T) { // P4.2, P4.3: the sentence below the function list
	var f *framer.Framer
	for _, payload := range []string{"", "a", letters(api.MaxChunk), letters(api.MaxChunk + 1)} {
		start(t, f, payload, api.ErrNil, "", false)
	}
	finish(t, f, api.ErrNil, "", false)
	for _, n := range []int{math.MinInt, -1, 0, 1, math.MaxInt} {
		advance(t, f, n, api.ErrNil, "", false)
	}
	if e := f.Start(nil); e != api.ErrNil {
		t.Errorf("Start(nil) = %v", e)
	}
}

// TestStartOfEachLength has the payloads at which the size line becomes longer, with the least and greater limits.
func TestStartOfEachLength(t *testing.T) { // P4.2
	all := letters(api.MaxChunk)
	for _, n := range []int{1, 2, 9, 10, 15, 16, 17, 26, 255, 256, 257, 4095, 4096, 4097, api.MaxChunk - 1, api.MaxChunk} {
		for _, most := range []int{n, n + 1, api.MaxChunk} {
			if most > api.MaxChunk {
				continue
			}
			f := newFramer(t, most)
			start(t, f, all[:n], api.OK, chunk(all[:n]), false)
			advance(t, f, len(chunk(all[:n])), api.OK, "", false)
			start(t, f, all[:1], api.OK, chunk(all[:1]), false)
		}
	}
}

// TestStartOfEachByte has each byte as the payload, and each in a longer one.
func TestStartOfEachByte(t *testing.T) { // P4.2
	f := newFramer(t, 20)
	for c := range 256 {
		for _, payload := range []string{string([]byte{byte(c)}), "0123456\r\n" + string([]byte{byte(c)}) + "\r\n0\r\n\r\n"} {
			start(t, f, payload, api.OK, chunk(payload), false)
			advance(t, f, len(chunk(payload)), api.OK, "", false)
		}
	}
}

func TestStartRejectsPayloads(t *testing.T) { // P4.2
	all := letters(2 * api.MaxChunk)
	for _, most := range []int{1, 2, 3, 15, 16, 1000, api.MaxChunk - 1, api.MaxChunk} {
		f := newFramer(t, most)
		start(t, f, "", api.ErrRange, "", false)
		start(t, f, all[:most+1], api.ErrRange, "", false)
		start(t, f, all, api.ErrRange, "", false)
		if e := f.Start(nil); e != api.ErrRange {
			t.Fatalf("Start(nil) = %v", e)
		}
		start(t, f, all[:most], api.OK, chunk(all[:most]), false)
		advance(t, f, len(chunk(all[:most])), api.OK, "", false)
		start(t, f, all[:most+1], api.ErrRange, "", false)
		finish(t, f, api.OK, lastChunk, false)
	}
}

func TestChunksOfABody(t *testing.T) { // P4.2, P4.3
	f := newFramer(t, 3)
	start(t, f, "ab", api.OK, "2\r\nab\r\n", false)
	advance(t, f, 7, api.OK, "", false)
	start(t, f, "cde", api.OK, "3\r\ncde\r\n", false)
	advance(t, f, 8, api.OK, "", false)
	start(t, f, "f", api.OK, "1\r\nf\r\n", false)
	advance(t, f, 6, api.OK, "", false)
	finish(t, f, api.OK, "0\r\n\r\n", false)
	advance(t, f, 5, api.OK, "", true)
}

func TestFinishWithoutChunks(t *testing.T) { // P4.2
	for _, most := range []int{1, 2, api.MaxChunk} {
		f := newFramer(t, most)
		finish(t, f, api.OK, lastChunk, false)
		advance(t, f, len(lastChunk), api.OK, "", true)
	}
}

// TestBytesArePending leaves each number of bytes of a chunk pending.
func TestBytesArePending(t *testing.T) { // P4.2
	want := chunk("ab")
	for n := range len(want) {
		f := newFramer(t, 2)
		start(t, f, "ab", api.OK, want, false)
		refuses(t, f, want, false)
		advance(t, f, n, api.OK, want[n:], false)
		refuses(t, f, want[n:], false)
		advance(t, f, len(want)-n, api.OK, "", false)
		start(t, f, "c", api.OK, chunk("c"), false)
		advance(t, f, len(chunk("c")), api.OK, "", false)
		finish(t, f, api.OK, lastChunk, false)
	}
}

// TestAfterFinish leaves each number of bytes of the last chunk pending, also none.
func TestAfterFinish(t *testing.T) { // P4.2
	for left := range len(lastChunk) + 1 {
		f := finished(t, left)
		pending := lastChunk[len(lastChunk)-left:]
		refuses(t, f, pending, left == 0)
		advance(t, f, left+1, api.ErrRange, pending, left == 0)
		advance(t, f, left, api.OK, "", true)
		refuses(t, f, "", true)
		advance(t, f, 1, api.ErrRange, "", true)
		advance(t, f, 0, api.OK, "", true)
	}
}

// TestFailedFinishDoesNotFinish finishes too early, which must not count as a success.
func TestFailedFinishDoesNotFinish(t *testing.T) { // P4.2, P4.3, rule 3
	f := newFramer(t, 2)
	start(t, f, "a", api.OK, chunk("a"), false)
	finish(t, f, api.ErrState, chunk("a"), false)
	advance(t, f, len(chunk("a")), api.OK, "", false)
	start(t, f, "b", api.OK, chunk("b"), false)
	advance(t, f, len(chunk("b")), api.OK, "", false)
	finish(t, f, api.OK, lastChunk, false)
}

func TestAdvance(t *testing.T) { // P4.3
	want := chunk("abc")
	for n := range len(want) + 1 {
		f := newFramer(t, 3)
		start(t, f, "abc", api.OK, want, false)
		advance(t, f, n, api.OK, want[n:], false)
		for _, wrong := range []int{-1, -n, len(want) - n + 1, len(want) + 1, -len(want), math.MinInt, math.MinInt + 1, math.MaxInt} {
			if wrong < 0 || wrong > len(want)-n {
				advance(t, f, wrong, api.ErrRange, want[n:], false)
			}
		}
		advance(t, f, 0, api.OK, want[n:], false)
		advance(t, f, len(want)-n, api.OK, "", false)
		advance(t, f, 1, api.ErrRange, "", false)
	}
}

func TestDone(t *testing.T) { // P4.3
	f := newFramer(t, 1)
	check(t, f, "", false)
	finish(t, f, api.OK, lastChunk, false)
	for n := 1; n < len(lastChunk); n++ {
		advance(t, f, 1, api.OK, lastChunk[n:], false)
	}
	advance(t, f, 2, api.ErrRange, "\n", false)
	advance(t, f, 1, api.OK, "", true)
	advance(t, f, 0, api.OK, "", true)
}

// TestPayloadOfStartMayChangeLater also changes what lies beyond the length of the payload.
func TestPayloadOfStartMayChangeLater(t *testing.T) { // P4.2, rule 4
	for _, payload := range []string{"a", "abc", letters(100), letters(api.MaxChunk)} {
		memory := append([]byte(payload), "spare"...)
		f := newFramer(t, api.MaxChunk)
		if e := f.Start(memory[:len(payload)]); e != api.OK {
			t.Fatalf("Start = %v", e)
		}
		if string(memory) != payload+"spare" {
			t.Fatalf("Start modified its argument")
		}
		clear(memory)
		check(t, f, chunk(payload), false)
		spoil(f.Pending())
		advance(t, f, 4, api.OK, chunk(payload)[4:], false)
		if !bytes.Equal(memory, make([]byte, len(memory))) {
			t.Fatalf("the argument of an earlier Start was modified")
		}
	}
}

func TestPayloadThatIsRejectedIsNotModified(t *testing.T) { // P4.2, rule 4
	memory := []byte("abcspare")
	f := newFramer(t, 2)
	for _, n := range []int{0, 3} {
		if e := f.Start(memory[:n]); e != api.ErrRange {
			t.Errorf("Start of %d bytes = %v", n, e)
		}
	}
	if string(memory) != "abcspare" {
		t.Errorf("the argument became %q", memory)
	}
}

// spoil overwrites a result and its spare capacity.
func spoil(b []byte) {
	b = b[:cap(b)]
	for i := range b {
		b[i] = '#'
	}
}

func TestResultOfPendingIsNewlyAllocated(t *testing.T) { // P4.3, rule 4
	f := newFramer(t, 3)
	spoil(f.Pending())
	for _, c := range []string{"abc", "d", "ef"} {
		start(t, f, c, api.OK, chunk(c), false)
		pendingIsOnesOwn(t, f, chunk(c))
	}
	finish(t, f, api.OK, lastChunk, false)
	pendingIsOnesOwn(t, f, lastChunk)
	check(t, f, "", true)
}

// pendingIsOnesOwn delivers the pending bytes one by one, and changes one of two results each time.
func pendingIsOnesOwn(t *testing.T, f *framer.Framer, want string) {
	t.Helper()
	for ; want != ""; want = want[1:] {
		first, second := f.Pending(), f.Pending()
		spoil(first)
		if string(second) != want || string(f.Pending()) != want {
			t.Fatalf("a change of one result made the next ones %q and %q; want %q", second, f.Pending(), want)
		}
		if e := f.Advance(1); e != api.OK || string(second) != want {
			t.Fatalf("Advance(1) = %v and made an earlier result %q; want %q", e, second, want)
		}
	}
}

// TestResultOfPendingStays starts another chunk, which must not appear in an earlier result.
func TestResultOfPendingStays(t *testing.T) { // P4.3, rule 4
	f := newFramer(t, 3)
	start(t, f, "abc", api.OK, chunk("abc"), false)
	earlier := f.Pending()
	advance(t, f, len(earlier), api.OK, "", false)
	start(t, f, "xyz", api.OK, chunk("xyz"), false)
	if string(earlier) != chunk("abc") {
		t.Errorf("an earlier result became %q", earlier)
	}
}

// encode compares the result of Encode with what is wanted.
func encode(t *testing.T, payload string, most int, want string, e api.Errno) {
	t.Helper()
	if got, gotE := framer.Encode([]byte(payload), most); string(got) != want || gotE != e {
		t.Fatalf("Encode(%.40q, %d) = %.60q, %v; want %.60q, %v", payload, most, got, gotE, want, e)
	}
}

func TestEncode(t *testing.T) { // P4.4
	for _, c := range []struct {
		payload string
		most    int
		want    string
	}{
		{"abc", 2, "2\r\nab\r\n1\r\nc\r\n0\r\n\r\n"},
		{"", 1, "0\r\n\r\n"},
		{"", api.MaxChunk, "0\r\n\r\n"},
		{"abc", 4, "3\r\nabc\r\n0\r\n\r\n"},
		{"abc", 3, "3\r\nabc\r\n0\r\n\r\n"},
		{"abcd", 3, "3\r\nabc\r\n1\r\nd\r\n0\r\n\r\n"},
		{"abcd", 2, "2\r\nab\r\n2\r\ncd\r\n0\r\n\r\n"},
		{"abc", 1, "1\r\na\r\n1\r\nb\r\n1\r\nc\r\n0\r\n\r\n"},
		{"0\r\n\r\n", 3, "3\r\n0\r\n\r\n2\r\n\r\n\r\n0\r\n\r\n"},
		{"abcdefghijklmnopqrstuvwxyz", 26, "1a\r\nabcdefghijklmnopqrstuvwxyz\r\n0\r\n\r\n"},
		{"a\x00\xff\x80", 100, "4\r\na\x00\xff\x80\r\n0\r\n\r\n"},
	} {
		encode(t, c.payload, c.most, c.want, api.OK)
	}
	if b, e := framer.Encode(nil, 5); string(b) != lastChunk || e != api.OK {
		t.Errorf("Encode(nil, 5) = %q, %v", b, e)
	}
}

// TestEncodeOfEachLength tries multiples of the limit, one more and one less, among others.
func TestEncodeOfEachLength(t *testing.T) { // P4.4
	all := letters(70)
	for n := range len(all) + 1 {
		for most := 1; most <= len(all)+2; most++ {
			encode(t, all[:n], most, body(all[:n], most), api.OK)
		}
	}
}

func TestEncodeOfManyBytes(t *testing.T) { // P4.4
	all := letters(3 * api.MaxChunk)
	for _, n := range []int{0, 1, api.MaxChunk - 1, api.MaxChunk, api.MaxChunk + 1, 2*api.MaxChunk - 1, 2 * api.MaxChunk, 2*api.MaxChunk + 1, len(all)} {
		for _, most := range []int{4096, 10000, api.MaxChunk - 1, api.MaxChunk} {
			encode(t, all[:n], most, body(all[:n], most), api.OK)
		}
	}
}

func TestEncodeOfManyChunks(t *testing.T) { // P4.4
	const n = 1 << 18
	encode(t, strings.Repeat("x", n), 1, strings.Repeat("1\r\nx\r\n", n)+lastChunk, api.OK)
}

func TestEncodeRejectsLimitsOutOfRange(t *testing.T) { // P4.4
	for _, most := range wrongLimits {
		for _, payload := range []string{"", "a", "abc"} {
			encode(t, payload, most, "", api.ErrRange)
		}
	}
}

// TestEncodeSharesNothing changes the argument and the results, and looks beyond the length of the argument.
func TestEncodeSharesNothing(t *testing.T) { // P4.4, rule 4
	for _, payload := range []string{"", "a", "abc", letters(100)} {
		for _, most := range []int{1, 2, 3, 99, 100, 101, api.MaxChunk} {
			memory := append([]byte(payload), "spare"...)
			first, _ := framer.Encode(memory[:len(payload)], most)
			second, _ := framer.Encode(memory[:len(payload)], most)
			spoil(first)
			if string(memory) != payload+"spare" {
				t.Fatalf("Encode(%q, %d) or a change of its result made the argument %q", payload, most, memory)
			}
			clear(memory)
			if string(second) != body(payload, most) {
				t.Fatalf("Encode(%q, %d): later changes made the result %q", payload, most, second)
			}
			encode(t, payload, most, body(payload, most), api.OK)
		}
	}
}

// deliver removes the pending bytes in pieces of the given sizes, one after the other and over again.
func deliver(t *testing.T, f *framer.Framer, sizes []int, turn *int) string {
	t.Helper()
	out := ""
	for pending := f.Pending(); len(pending) > 0; pending = f.Pending() {
		n := min(sizes[*turn%len(sizes)], len(pending))
		*turn++
		out += string(pending[:n])
		if e := f.Advance(n); e != api.OK {
			t.Fatalf("Advance(%d) = %v with %d pending bytes", n, e, len(pending))
		}
	}
	return out
}

// TestPiecesOfAnySizes delivers the same chunks in different pieces.
func TestPiecesOfAnySizes(t *testing.T) { // P4.3, P4.5
	chunks := []string{"abc", "d", letters(26), "\r\n", "0\r\n\r\n", letters(300)}
	want := lastChunk
	for _, c := range slices.Backward(chunks) {
		want = chunk(c) + want
	}
	for _, sizes := range [][]int{{1}, {2}, {3}, {0, 1}, {5, 0, 0, 7}, {1, 2, 3, 4}, {11, 1}, {64}, {math.MaxInt}} {
		f, got, turn := newFramer(t, 300), "", 0
		for _, c := range chunks {
			start(t, f, c, api.OK, chunk(c), false)
			got += deliver(t, f, sizes, &turn)
		}
		finish(t, f, api.OK, lastChunk, false)
		if got += deliver(t, f, sizes, &turn); got != want || !f.Done() {
			t.Errorf("pieces of %v: delivered %.60q, Done %v; want %.60q", sizes, got, f.Done(), want)
		}
	}
}

// expected is what the chapter says of a framer after some calls.
type expected struct {
	most      int
	pending   string
	finished  bool
	delivered string   // the bytes that were removed from the pending ones
	chunks    []string // the payloads that became pending
}

func (x *expected) start(payload string) api.Errno {
	if x.pending != "" || x.finished {
		return api.ErrState
	}
	if payload == "" || len(payload) > x.most {
		return api.ErrRange
	}
	x.pending = chunk(payload)
	x.chunks = append(x.chunks, payload)
	return api.OK
}

func (x *expected) finish() api.Errno {
	if x.pending != "" || x.finished {
		return api.ErrState
	}
	x.pending, x.finished = lastChunk, true
	return api.OK
}

func (x *expected) advance(n int) api.Errno {
	if n < 0 || n > len(x.pending) {
		return api.ErrRange
	}
	x.delivered += x.pending[:n]
	x.pending = x.pending[n:]
	return api.OK
}

// body returns the encoding of the chunks, and of the last one if it was started.
func (x *expected) body() string {
	out := ""
	for _, payload := range x.chunks {
		out += chunk(payload)
	}
	if x.finished {
		out += lastChunk
	}
	return out
}

// calls is the number of calls that call knows.
const calls = 11

// call makes one of the calls, given by its number, for f and x and compares them.
func call(t *testing.T, f *framer.Framer, x *expected, number int) {
	t.Helper()
	done := func() bool { return x.finished && x.pending == "" }
	payloads := []string{"", "a", "\r\n", "abc"}
	steps := []int{-1, 0, 1, 3, len(x.pending), len(x.pending) + 1}
	switch {
	case number < len(payloads):
		e := x.start(payloads[number])
		start(t, f, payloads[number], e, x.pending, done())
	case number == len(payloads):
		e := x.finish()
		finish(t, f, e, x.pending, done())
	default:
		n := steps[number-len(payloads)-1]
		e := x.advance(n)
		advance(t, f, n, e, x.pending, done())
	}
	if x.delivered+x.pending != x.body() {
		t.Fatalf("delivered %q and pending %q are not the body %q", x.delivered, x.pending, x.body())
	}
}

// TestSequencesOfCalls makes all sequences of five calls.
func TestSequencesOfCalls(t *testing.T) { // P4.2, P4.3, P4.5
	const length = 5
	all := 1
	for range length {
		all *= calls
	}
	for number := range all {
		f, x := newFramer(t, 2), &expected{most: 2}
		for range length {
			call(t, f, x, number%calls)
			number /= calls
		}
	}
}

// TestManyCalls makes long sequences of calls until the last chunk is delivered.
func TestManyCalls(t *testing.T) { // P4.2, P4.3, P4.5
	seed, chunks := uint32(1), 0
	for range 300 {
		f, x := newFramer(t, 2), &expected{most: 2}
		for !f.Done() {
			seed = seed*1664525 + 1013904223
			number := int(seed>>8) % calls
			if number == 4 && seed>>24%8 != 0 { // seldom finish
				number = 1
			}
			call(t, f, x, number)
		}
		chunks += len(x.chunks)
	}
	if chunks < 500 {
		t.Fatalf("only %d chunks", chunks)
	}
}

func TestFramersAreIndependent(t *testing.T) { // P2
	a, b := newFramer(t, 1), newFramer(t, 3)
	start(t, a, "x", api.OK, chunk("x"), false)
	check(t, b, "", false)
	start(t, b, "abc", api.OK, chunk("abc"), false)
	advance(t, b, len(chunk("abc")), api.OK, "", false)
	finish(t, b, api.OK, lastChunk, false)
	check(t, a, chunk("x"), false)
	advance(t, a, len(chunk("x")), api.OK, "", false)
	start(t, a, "ab", api.ErrRange, "", false)
	advance(t, b, len(lastChunk), api.OK, "", true)
	start(t, a, "y", api.OK, chunk("y"), false)
	encode(t, "abc", 2, body("abc", 2), api.OK)
	check(t, a, chunk("y"), false)
	check(t, b, "", true)
}
