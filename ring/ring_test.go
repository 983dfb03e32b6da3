package ring_test

import (
	"bytes"
	"math"
	"testing"

	"tmplpipe/api"
	"tmplpipe/ring"
)

func newRing(t *testing.T, capacity int) *ring.Ring {
	t.Helper()
	r, e := ring.New(capacity)
	if r == nil || e != api.OK {
		t.Fatalf("New(%d) = %v, %v", capacity, r, e)
	}
	return r
}

// filled returns a ring buffer that contains content, from the given position of its memory on.
func filled(t *testing.T, capacity, start int, content []byte) *ring.Ring {
	t.Helper()
	r := newRing(t, capacity)
	if n := r.Put(bytes.Repeat([]byte{'#'}, start)); n != start {
		t.Fatalf("Put of %d bytes into an empty buffer of %d = %d", start, capacity, n)
	}
	mustConsume(t, r, start)
	if n := r.Put(content); n != len(content) {
		t.Fatalf("Put of %d bytes into an empty buffer of %d = %d", len(content), capacity, n)
	}
	return r
}

func mustConsume(t *testing.T, r *ring.Ring, n int) {
	t.Helper()
	if e := r.Consume(n); e != api.OK {
		t.Fatalf("Consume(%d) = %v", n, e)
	}
}

// checkContent compares all that can be observed of r without changing it.
func checkContent(t *testing.T, r *ring.Ring, capacity int, want []byte) {
	t.Helper()
	if r.Len() != len(want) || r.Cap() != capacity || r.Free() != capacity-len(want) {
		t.Fatalf("Len %d, Cap %d, Free %d; want %d, %d, %d",
			r.Len(), r.Cap(), r.Free(), len(want), capacity, capacity-len(want))
	}
	if got := r.Peek(capacity); !bytes.Equal(got, want) {
		t.Fatalf("content %q, want %q", got, want)
	}
}

// letters returns n bytes that repeat only after a prime number of them, so that a misplaced part is noticed.
func letters(from, n int) []byte {
	out := make([]byte, n)
	for i := range out {
		out[i] = byte((from + i) % 251)
	}
	return out
}

func TestNewRejectsCapacitiesOutOfRange(t *testing.T) { // P1.1
	for _, n := range []int{0, -1, -api.MaxRing, math.MinInt, api.MaxRing + 1, 2 * api.MaxRing, math.MaxInt} {
		if r, e := ring.New(n); r != nil || e != api.ErrRange {
			t.Errorf("New(%d) = %v, %v", n, r, e)
		}
	}
}

func TestNewIsEmpty(t *testing.T) { // P1.1
	for _, n := range []int{1, 2, 3, 1000, api.MaxRing - 1, api.MaxRing} {
		r := newRing(t, n)
		checkContent(t, r, n, nil)
		if e := r.Consume(1); e != api.ErrRange {
			t.Errorf("Consume(1) of an empty buffer of %d: %v", n, e)
		}
	}
}

func TestSizesFollowTheContent(t *testing.T) { // P1.1
	r := newRing(t, 5)
	r.Put([]byte("abc"))
	checkContent(t, r, 5, []byte("abc"))
	r.Put([]byte("de"))
	checkContent(t, r, 5, []byte("abcde"))
	mustConsume(t, r, 4)
	checkContent(t, r, 5, []byte("e"))
	mustConsume(t, r, 1)
	checkContent(t, r, 5, nil)
}

func TestNilRing(t *testing.T) { // P1.1, P1.2: the sentence below the function list
	var r *ring.Ring
	for _, n := range []int{math.MinInt, -1, 0, 1, math.MaxInt} {
		if e := r.Consume(n); e != api.ErrNil {
			t.Errorf("Consume(%d) = %v", n, e)
		}
		if b := r.Peek(n); len(b) != 0 {
			t.Errorf("Peek(%d) = %q", n, b)
		}
	}
	if n := r.Put([]byte("abc")); n != 0 {
		t.Errorf("Put = %d", n)
	}
	if n := r.Put(nil); n != 0 {
		t.Errorf("Put of nothing = %d", n)
	}
	if r.Len() != 0 || r.Free() != 0 || r.Cap() != 0 {
		t.Errorf("Len %d, Free %d, Cap %d", r.Len(), r.Free(), r.Cap())
	}
}

func TestExampleOfTheChapter(t *testing.T) { // P1.2
	r := newRing(t, 3)
	if n := r.Put([]byte("abcd")); n != 3 {
		t.Errorf("Put of abcd = %d", n)
	}
	mustConsume(t, r, 2)
	if n := r.Put([]byte("de")); n != 2 {
		t.Errorf("Put of de = %d", n)
	}
	if b := r.Peek(9); string(b) != "cde" {
		t.Errorf("Peek(9) = %q", b)
	}
}

// TestPutEverywhere puts each number of bytes behind each content at each position of the buffer.
func TestPutEverywhere(t *testing.T) { // P1.2
	everywhere(t, func(capacity, start int, content []byte) {
		for n := range capacity + 3 {
			r := filled(t, capacity, start, content)
			more := letters(100, n)
			fit := min(n, capacity-len(content))
			if got := r.Put(more); got != fit {
				t.Fatalf("Put of %d bytes with %d free = %d", n, capacity-len(content), got)
			}
			checkContent(t, r, capacity, append(bytes.Clone(content), more[:fit]...))
		}
	})
}

func TestPeekEverywhere(t *testing.T) { // P1.2
	everywhere(t, func(capacity, start int, content []byte) {
		r := filled(t, capacity, start, content)
		for n := range capacity + 3 {
			if got, want := r.Peek(n), content[:min(n, len(content))]; !bytes.Equal(got, want) {
				t.Fatalf("Peek(%d) of %q = %q", n, content, got)
			}
		}
		for _, n := range []int{-1, -2, -capacity, -capacity - 1, math.MinInt} {
			if got := r.Peek(n); len(got) != 0 {
				t.Fatalf("Peek(%d) of %q = %q", n, content, got)
			}
		}
		for _, n := range []int{1 << 20, math.MaxInt - 1, math.MaxInt} {
			if got := r.Peek(n); !bytes.Equal(got, content) {
				t.Fatalf("Peek(%d) of %q = %q", n, content, got)
			}
		}
		checkContent(t, r, capacity, content)
	})
}

func TestConsumeEverywhere(t *testing.T) { // P1.2
	everywhere(t, func(capacity, start int, content []byte) {
		for n := range len(content) + 1 {
			r := filled(t, capacity, start, content)
			mustConsume(t, r, n)
			checkContent(t, r, capacity, content[n:])
		}
	})
}

func TestFailedConsumeHasNoEffect(t *testing.T) { // P1.2
	everywhere(t, func(capacity, start int, content []byte) {
		r := filled(t, capacity, start, content)
		for _, n := range []int{-1, -len(content), -capacity, math.MinInt, len(content) + 1, capacity + 1, math.MaxInt} {
			if n == 0 {
				continue
			}
			if e := r.Consume(n); e != api.ErrRange {
				t.Fatalf("Consume(%d) of %q = %v", n, content, e)
			}
			checkContent(t, r, capacity, content)
		}
	})
}

// everywhere calls f for each content length and each position in the memory of small ring buffers.
func everywhere(t *testing.T, f func(capacity, start int, content []byte)) {
	t.Helper()
	for capacity := 1; capacity <= 6; capacity++ {
		for start := range capacity {
			for used := range capacity + 1 {
				f(capacity, start, letters(1, used))
			}
		}
	}
}

func TestPutOfNothing(t *testing.T) { // P1.2
	r := filled(t, 4, 3, []byte("ab"))
	for _, b := range [][]byte{nil, {}} {
		if n := r.Put(b); n != 0 {
			t.Errorf("Put of %#v = %d", b, n)
		}
	}
	checkContent(t, r, 4, []byte("ab"))
}

func TestPutIntoFullBuffer(t *testing.T) { // P1.2
	r := filled(t, 4, 2, []byte("abcd"))
	if n := r.Put([]byte("x")); n != 0 {
		t.Errorf("Put = %d", n)
	}
	checkContent(t, r, 4, []byte("abcd"))
}

// TestPutLeavesItsArgument also looks at the bytes beyond the length of the argument, which Put must not read or write.
func TestPutLeavesItsArgument(t *testing.T) { // P1.2, rule 4
	for start := range 4 {
		r := filled(t, 4, start, nil)
		b := []byte("abcdef")
		if n := r.Put(b[:2]); n != 2 {
			t.Errorf("Put of the first two bytes = %d", n)
		}
		if string(b) != "abcdef" {
			t.Errorf("the argument became %q", b)
		}
		checkContent(t, r, 4, []byte("ab"))
	}
}

func TestArgumentOfPutMayChangeLater(t *testing.T) { // P1.2, rule 4
	for _, n := range []int{1, 2, 3, 4} {
		for start := range 4 {
			r := filled(t, 4, start, nil)
			b := letters(1, n)
			r.Put(b)
			clear(b)
			checkContent(t, r, 4, letters(1, n))
		}
	}
}

func TestResultOfPeekMayChangeLater(t *testing.T) { // P1.2, rule 4
	everywhere(t, func(capacity, start int, content []byte) {
		r := filled(t, capacity, start, content)
		for n := range len(content) + 1 {
			// The appended bytes would land in the buffer if the result were a part of it.
			b := append(r.Peek(n), 0xff, 0xff, 0xff)
			for i := range b {
				b[i] = 0xff
			}
			checkContent(t, r, capacity, content)
		}
	})
}

func TestResultsOfPeekAreSeparate(t *testing.T) { // P1.2, rule 4
	for start := range 4 {
		r := filled(t, 4, start, []byte("abc"))
		first, second := r.Peek(3), r.Peek(3)
		clear(first)
		if string(second) != "abc" {
			t.Errorf("a change of one result made the other %q", second)
		}
	}
}

func TestResultOfPeekStays(t *testing.T) { // P1.2, rule 4
	for start := range 4 {
		r := filled(t, 4, start, []byte("abcd"))
		b := r.Peek(4)
		mustConsume(t, r, 3)
		r.Put([]byte("xyz"))
		r.Peek(4)
		mustConsume(t, r, 4)
		r.Put([]byte("1234"))
		if string(b) != "abcd" {
			t.Errorf("later calls made the result %q", b)
		}
	}
}

// TestOrderIsKept compares a ring buffer with a slice over many calls of irregular sizes.
func TestOrderIsKept(t *testing.T) { // P1.3
	for _, capacity := range []int{1, 2, 3, 7, 16, 100} {
		r := newRing(t, capacity)
		var want []byte
		seed, sent := uint32(capacity), 0
		for range 4000 {
			seed = seed*1664525 + 1013904223
			size := int(seed>>8) % (capacity + 3)
			if seed>>31 == 0 {
				b := letters(sent, size)
				n := r.Put(b)
				if n != min(size, capacity-len(want)) {
					t.Fatalf("Put of %d bytes with %d free = %d", size, capacity-len(want), n)
				}
				want = append(want, b[:n]...)
				sent += n
			} else if e := r.Consume(size); size <= len(want) {
				if e != api.OK {
					t.Fatalf("Consume(%d) of %d = %v", size, len(want), e)
				}
				want = want[size:]
			} else if e != api.ErrRange {
				t.Fatalf("Consume(%d) of %d = %v", size, len(want), e)
			}
			checkContent(t, r, capacity, want)
		}
	}
}

func TestGreatestBufferWrapsAround(t *testing.T) { // P1.3
	r := newRing(t, api.MaxRing)
	sent := letters(0, 3*api.MaxRing)
	if n := r.Put(sent); n != api.MaxRing {
		t.Fatalf("Put = %d", n)
	}
	checkContent(t, r, api.MaxRing, sent[:api.MaxRing])
	for from := 0; from+api.MaxRing < len(sent); from += 40000 {
		mustConsume(t, r, 40000)
		n := r.Put(sent[from+api.MaxRing:])
		if want := min(40000, len(sent)-from-api.MaxRing); n != want {
			t.Fatalf("Put after %d bytes = %d, want %d", from, n, want)
		}
		checkContent(t, r, api.MaxRing, sent[from+40000:from+api.MaxRing+n])
	}
}

func TestLeastBuffer(t *testing.T) { // P1.3
	r := newRing(t, 1)
	for i := range 20 {
		b := letters(i, 2)
		if n := r.Put(b); n != 1 {
			t.Fatalf("Put = %d", n)
		}
		if n := r.Put(b[1:]); n != 0 {
			t.Fatalf("Put into the full buffer = %d", n)
		}
		checkContent(t, r, 1, b[:1])
		mustConsume(t, r, 1)
		checkContent(t, r, 1, nil)
	}
}

func TestBuffersAreIndependent(t *testing.T) { // P2
	a, b := newRing(t, 3), newRing(t, 3)
	a.Put([]byte("abc"))
	b.Put([]byte("xy"))
	mustConsume(t, a, 2)
	checkContent(t, a, 3, []byte("c"))
	checkContent(t, b, 3, []byte("xy"))
}
