package writer_test

import (
	"bytes"
	"math"
	"slices"
	"testing"

	"tmplpipe/api"
	"tmplpipe/writer"
)

// outcomes are the ones that the exhaustive tests combine: two failures, nothing, a part of abc, all of it, and more.
var outcomes = []int{math.MinInt, -1, 0, 1, 2, 3, 4, math.MaxInt}

// write writes b and compares the results and all that can be observed of w.
func write(t *testing.T, w *writer.Writer, b string, n int, e api.Errno, accepted string, calls, left int) {
	t.Helper()
	if gotN, gotE := w.Write([]byte(b)); gotN != n || gotE != e {
		t.Fatalf("Write(%q) = %d, %v; want %d, %v", b, gotN, gotE, n, e)
	}
	check(t, w, accepted, calls, left)
}

// check compares all that can be observed of w without changing it.
func check(t *testing.T, w *writer.Writer, accepted string, calls, left int) {
	t.Helper()
	if string(w.Bytes()) != accepted || w.Calls() != calls || w.Left() != left {
		t.Fatalf("Bytes %q, Calls %d, Left %d; want %q, %d, %d",
			w.Bytes(), w.Calls(), w.Left(), accepted, calls, left)
	}
}

// schedules returns all sequences of at most most outcomes.
func schedules(most int) [][]int {
	all := [][]int{{}}
	longest := all
	for range most {
		var longer [][]int
		for _, s := range longest {
			for _, o := range outcomes {
				longer = append(longer, append(slices.Clone(s), o))
			}
		}
		all = append(all, longer...)
		longest = longer
	}
	return all
}

// expected is what the chapter says of a writer with the given schedule after some writes.
type expected struct {
	schedule []int
	used     int
	accepted string
}

func (x *expected) write(b string) (int, api.Errno) {
	if slices.ContainsFunc(x.schedule[:x.used], func(o int) bool { return o < 0 }) {
		return 0, api.ErrWrite
	}
	if x.used == len(x.schedule) {
		return 0, api.ErrBlocked
	}
	o := x.schedule[x.used]
	x.used++
	if o < 0 {
		return 0, api.ErrWrite
	}
	n := min(o, len(b))
	x.accepted += b[:n]
	return n, api.OK
}

// writeBoth writes b to w and compares it with what is expected.
func (x *expected) writeBoth(t *testing.T, w *writer.Writer, b string) {
	t.Helper()
	n, e := x.write(b)
	write(t, w, b, n, e, x.accepted, x.used, len(x.schedule)-x.used)
}

func TestNewHasNotAcceptedAnything(t *testing.T) { // P2.1
	for _, s := range append(schedules(3), nil) {
		w := writer.New(s...)
		if w == nil {
			t.Fatalf("New(%v) is nil", s)
		}
		check(t, w, "", 0, len(s))
	}
}

func TestExtendAppends(t *testing.T) { // P2.1
	w := writer.New(1)
	w.Extend(2, 0)
	check(t, w, "", 0, 3)
	w.Extend()
	check(t, w, "", 0, 3)
	w.Extend(-1)
	check(t, w, "", 0, 4)
	write(t, w, "abc", 1, api.OK, "a", 1, 3)
	w.Extend(7)
	check(t, w, "a", 1, 4)
	write(t, w, "bcd", 2, api.OK, "abc", 2, 3)
	write(t, w, "d", 0, api.OK, "abc", 3, 2)
	write(t, w, "d", 0, api.ErrWrite, "abc", 4, 1)
	write(t, w, "d", 0, api.ErrWrite, "abc", 4, 1)
}

// TestScheduleMayChangeLater also changes what lies beyond the length of the schedule.
func TestScheduleMayChangeLater(t *testing.T) { // P2.1, rule 4
	first, second := []int{1, 2, 9, 9, 9, 9}, []int{3, 1, 9, 9, 9, 9}
	w := writer.New(first[:2]...)
	spoil(first)
	check(t, w, "", 0, 2)
	w.Extend(second[:2]...)
	spoil(second)
	write(t, w, "abcd", 1, api.OK, "a", 1, 3)
	write(t, w, "bcde", 2, api.OK, "abc", 2, 2)
	write(t, w, "defg", 3, api.OK, "abcdef", 3, 1)
	write(t, w, "ghij", 1, api.OK, "abcdefg", 4, 0)
}

func TestScheduleOfExtendMayChangeLater(t *testing.T) { // P2.1, rule 4
	w := writer.New()
	s := []int{2, 1}
	w.Extend(s...)
	spoil(s)
	write(t, w, "abc", 2, api.OK, "ab", 1, 1)
	s = []int{1, 1}
	w.Extend(s...)
	spoil(s)
	write(t, w, "cde", 1, api.OK, "abc", 2, 2)
	write(t, w, "def", 1, api.OK, "abcd", 3, 1)
	write(t, w, "efg", 1, api.OK, "abcde", 4, 0)
}

// spoil replaces outcomes by failures.
func spoil(schedule []int) {
	for i := range schedule {
		schedule[i] = -1
	}
}

func TestScheduleIsNotModified(t *testing.T) { // P2.1, rule 4
	first, second := []int{2, 1, 7, 8, 9}, []int{3, 0, 7, 8, 9}
	w := writer.New(first[:2]...)
	w.Extend(second[:2]...)
	for range 5 {
		w.Write([]byte("abc"))
		w.Extend(5)
	}
	if !slices.Equal(first, []int{2, 1, 7, 8, 9}) || !slices.Equal(second, []int{3, 0, 7, 8, 9}) {
		t.Errorf("the schedules became %v and %v", first, second)
	}
}

func TestOneScheduleForTwoWriters(t *testing.T) { // P2, P2.1
	s := []int{1, 2, 3}
	a, b := writer.New(s[:2]...), writer.New(s[:2]...)
	a.Extend(-1)
	b.Extend(0)
	write(t, a, "abc", 1, api.OK, "a", 1, 2)
	check(t, b, "", 0, 3)
	write(t, a, "bcd", 2, api.OK, "abc", 2, 1)
	write(t, a, "d", 0, api.ErrWrite, "abc", 3, 0)
	write(t, b, "xyz", 1, api.OK, "x", 1, 2)
	write(t, b, "yz", 2, api.OK, "xyz", 2, 1)
	write(t, b, "z", 0, api.OK, "xyz", 3, 0)
	write(t, b, "z", 0, api.ErrBlocked, "xyz", 3, 0)
	write(t, a, "d", 0, api.ErrWrite, "abc", 3, 0)
	if !slices.Equal(s, []int{1, 2, 3}) {
		t.Errorf("the schedule became %v", s)
	}
}

func TestExampleOfTheChapter(t *testing.T) { // P2.2
	w := writer.New(2, 0, -1)
	write(t, w, "abc", 2, api.OK, "ab", 1, 2)
	write(t, w, "abc", 0, api.OK, "ab", 2, 1)
	for range 5 {
		write(t, w, "abc", 0, api.ErrWrite, "ab", 3, 0)
	}
}

func TestWriteWithoutOutcomes(t *testing.T) { // P2.2
	w := writer.New()
	write(t, w, "abc", 0, api.ErrBlocked, "", 0, 0)
	write(t, w, "", 0, api.ErrBlocked, "", 0, 0)
	w.Extend(2)
	write(t, w, "abc", 2, api.OK, "ab", 1, 0)
	write(t, w, "abc", 0, api.ErrBlocked, "ab", 1, 0)
}

// TestWriteAcceptsAtMostTheOutcome writes each number of bytes with each outcome that is not negative.
func TestWriteAcceptsAtMostTheOutcome(t *testing.T) { // P2.2
	b := "abcdefgh"
	for n := range len(b) + 1 {
		for _, o := range []int{0, 1, 2, 3, 4, 5, 6, 7, 8, 9, 1 << 20, math.MaxInt - 1, math.MaxInt} {
			fit := min(n, o)
			w := writer.New(o)
			write(t, w, b[:n], fit, api.OK, b[:fit], 1, 0)
			write(t, w, b[:n], 0, api.ErrBlocked, b[:fit], 1, 0)
		}
	}
}

func TestNegativeOutcomes(t *testing.T) { // P2.2, P2.4
	for _, o := range []int{-1, -2, -3, -1 << 20, math.MinInt + 1, math.MinInt} {
		w := writer.New(2, o, 3)
		write(t, w, "abc", 2, api.OK, "ab", 1, 2)
		for _, b := range []string{"cde", "", "c"} {
			write(t, w, b, 0, api.ErrWrite, "ab", 2, 1)
		}
	}
}

func TestFailurePrecedesBlocking(t *testing.T) { // P2.2
	w := writer.New(-1)
	write(t, w, "abc", 0, api.ErrWrite, "", 1, 0)
	write(t, w, "abc", 0, api.ErrWrite, "", 1, 0)
}

func TestExtendAfterFailure(t *testing.T) { // P2.1, P2.2
	w := writer.New(1, -5)
	write(t, w, "abc", 1, api.OK, "a", 1, 1)
	write(t, w, "abc", 0, api.ErrWrite, "a", 2, 0)
	w.Extend(3, -1, 0)
	check(t, w, "a", 2, 3)
	for range 5 {
		write(t, w, "abc", 0, api.ErrWrite, "a", 2, 3)
		write(t, w, "", 0, api.ErrWrite, "a", 2, 3)
	}
	w.Extend(9)
	write(t, w, "abc", 0, api.ErrWrite, "a", 2, 4)
}

func TestExtendAfterAllOutcomes(t *testing.T) { // P2.1, P2.2
	w := writer.New(1)
	write(t, w, "abc", 1, api.OK, "a", 1, 0)
	write(t, w, "bc", 0, api.ErrBlocked, "a", 1, 0)
	w.Extend()
	write(t, w, "bc", 0, api.ErrBlocked, "a", 1, 0)
	w.Extend(0, 2)
	check(t, w, "a", 1, 2)
	write(t, w, "bc", 0, api.OK, "a", 2, 1)
	write(t, w, "bc", 2, api.OK, "abc", 3, 0)
	write(t, w, "d", 0, api.ErrBlocked, "abc", 3, 0)
	w.Extend(-1, 5)
	write(t, w, "d", 0, api.ErrWrite, "abc", 4, 1)
}

func TestWriteOfNothing(t *testing.T) { // P2.2
	for _, b := range [][]byte{nil, {}} {
		w := writer.New(3, 0, 1, -1, 2)
		for i := range 3 {
			if n, e := w.Write(b); n != 0 || e != api.OK {
				t.Fatalf("write %d of %#v = %d, %v", i, b, n, e)
			}
			check(t, w, "", i+1, 4-i)
		}
		for range 2 {
			if n, e := w.Write(b); n != 0 || e != api.ErrWrite {
				t.Fatalf("Write(%#v) = %d, %v", b, n, e)
			}
			check(t, w, "", 4, 1)
		}
	}
}

// TestWritesEverywhere tries each schedule of up to four outcomes with each number of bytes.
func TestWritesEverywhere(t *testing.T) { // P2.2, P2.3
	for _, s := range schedules(4) {
		for _, b := range []string{"", "a", "abc"} {
			w, x := writer.New(s...), expected{schedule: s}
			for range len(s) + 2 {
				x.writeBoth(t, w, b)
			}
		}
	}
}

// TestWriteLeavesItsArgument also looks at the bytes beyond the length, which Write must not read or write.
func TestWriteLeavesItsArgument(t *testing.T) { // P2.2, rule 4
	w := writer.New(9, 1, -1)
	b := []byte("abcdef")
	for range 4 {
		w.Write(b[:2])
	}
	check(t, w, "aba", 3, 0)
	if string(b) != "abcdef" {
		t.Errorf("the argument became %q", b)
	}
}

// TestArgumentOfWriteMayChangeLater also lets the argument have room for what is written later.
func TestArgumentOfWriteMayChangeLater(t *testing.T) { // P2.2, rule 4
	w := writer.New(2, 9)
	b := []byte("abcdef")
	w.Write(b[:3])
	clear(b)
	check(t, w, "ab", 1, 1)
	c := []byte("xyz")
	w.Write(c)
	clear(c)
	check(t, w, "abxyz", 2, 0)
	if !bytes.Equal(b, make([]byte, 6)) {
		t.Errorf("a later write made the first argument %q", b)
	}
}

func TestResultOfBytesMayChangeLater(t *testing.T) { // P2.3, rule 4
	w := writer.New(9, 9)
	for _, want := range []string{"", "abc", "abcdef"} {
		if want != "" {
			w.Write([]byte(want[len(want)-3:]))
		}
		first, second := w.Bytes(), w.Bytes()
		clear(first)
		if string(second) != want {
			t.Errorf("a change of one result made the other %q, want %q", second, want)
		}
		if got := w.Bytes(); string(got) != want {
			t.Errorf("a change of the result made the accepted bytes %q, want %q", got, want)
		}
	}
}

func TestResultOfBytesStays(t *testing.T) { // P2.3, rule 4
	w := writer.New()
	var results [][]byte
	for i := range 50 {
		results = append(results, w.Bytes())
		w.Extend(1)
		w.Write([]byte{byte(i)})
	}
	for i, b := range results {
		if !bytes.Equal(b, w.Bytes()[:i]) {
			t.Fatalf("later writes made result %d %v", i, b)
		}
	}
}

func TestAppendToResultDoesNotReachLaterWrites(t *testing.T) { // P2.3, rule 4
	w := writer.New(3, 3)
	w.Write([]byte("abc"))
	kept := append(w.Bytes(), "xyz"...)
	w.Write([]byte("def"))
	if string(kept) != "abcxyz" {
		t.Errorf("a later write made the lengthened result %q", kept)
	}
	check(t, w, "abcdef", 2, 0)
}

func TestNilWriter(t *testing.T) { // P2.1 to P2.3: the sentence below the function list
	var w *writer.Writer
	for range 2 {
		for _, b := range []string{"abc", ""} {
			write(t, w, b, 0, api.ErrNil, "", 0, 0)
		}
		w.Extend()
		w.Extend(1, 0, -1)
		check(t, w, "", 0, 0)
	}
	if n, e := w.Write(nil); n != 0 || e != api.ErrNil {
		t.Errorf("Write(nil) = %d, %v", n, e)
	}
}

// TestAcceptedBytesStayAfterFailure extends a writer that has failed by each schedule.
func TestAcceptedBytesStayAfterFailure(t *testing.T) { // P2.4
	for _, s := range schedules(3) {
		w := writer.New(2, -1)
		w.Write([]byte("abc"))
		w.Write([]byte("abc"))
		w.Extend(s...)
		for range len(s) + 2 {
			write(t, w, "abc", 0, api.ErrWrite, "ab", 2, len(s))
		}
	}
}

// TestScheduleInTwoParts splits each schedule everywhere and passes the second part after any number of writes.
func TestScheduleInTwoParts(t *testing.T) { // P2.4
	for _, s := range schedules(3) {
		for split := range len(s) + 1 {
			for before := range len(s) + 2 {
				twoParts(t, s, split, before)
			}
		}
	}
}

// twoParts compares a schedule that is passed at once with one whose second part is passed after some writes.
func twoParts(t *testing.T, s []int, split, before int) {
	t.Helper()
	whole, parts := writer.New(s...), writer.New(s[:split]...)
	for range before {
		n, e := parts.Write([]byte("abc"))
		if e == api.ErrBlocked {
			if n != 0 || parts.Calls() != split {
				t.Fatalf("%v, split at %d: blocked with %d after %d outcomes", s, split, n, parts.Calls())
			}
			continue
		}
		sameWrite(t, whole, n, e)
	}
	parts.Extend(s[split:]...)
	for range len(s) + 2 {
		check(t, parts, string(whole.Bytes()), whole.Calls(), whole.Left())
		n, e := parts.Write([]byte("abc"))
		sameWrite(t, whole, n, e)
	}
	check(t, parts, string(whole.Bytes()), whole.Calls(), whole.Left())
}

// sameWrite writes abc to whole and compares the results with those of the other writer.
func sameWrite(t *testing.T, whole *writer.Writer, n int, e api.Errno) {
	t.Helper()
	if wantN, wantE := whole.Write([]byte("abc")); n != wantN || e != wantE {
		t.Fatalf("in two parts: %d, %v; at once: %d, %v", n, e, wantN, wantE)
	}
}

// TestManyCalls mixes Extend and Write with irregular sizes.
func TestManyCalls(t *testing.T) { // P2.1 to P2.4
	w, x := writer.New(), expected{}
	seed := uint32(1)
	for range 3000 {
		seed = seed*1664525 + 1013904223
		if size := int(seed>>8) % 7; seed>>30 == 0 {
			more := make([]int, size)
			for i := range more {
				more[i] = (size*3 + i*5) % 11
			}
			w.Extend(more...)
			x.schedule = append(x.schedule, more...)
		} else {
			x.writeBoth(t, w, "abcdefg"[:size])
		}
	}
	if x.used < 500 || len(x.accepted) < 500 {
		t.Fatalf("only %d outcomes used and %d bytes accepted", x.used, len(x.accepted))
	}
}

func TestManyBytes(t *testing.T) { // P2.2, P2.3
	b := bytes.Repeat([]byte("0123456789abcdef"), 1<<16)
	w := writer.New(len(b), len(b)-1, len(b)+1)
	for i, want := range []int{len(b), len(b) - 1, len(b)} {
		if n, e := w.Write(b); n != want || e != api.OK {
			t.Fatalf("write %d = %d, %v", i, n, e)
		}
	}
	if got := w.Bytes(); !bytes.Equal(got, slices.Concat(b, b[:len(b)-1], b)) {
		t.Errorf("%d bytes accepted, not those that were written", len(got))
	}
}

func TestWritersAreIndependent(t *testing.T) { // P2
	a, b := writer.New(1, -1), writer.New(2, 2)
	write(t, a, "abc", 1, api.OK, "a", 1, 1)
	check(t, b, "", 0, 2)
	write(t, a, "abc", 0, api.ErrWrite, "a", 2, 0)
	write(t, b, "xyz", 2, api.OK, "xy", 1, 1)
	b.Extend(4)
	check(t, a, "a", 2, 0)
	write(t, b, "z", 1, api.OK, "xyz", 2, 1)
}
