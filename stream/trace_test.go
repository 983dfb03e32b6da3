package stream_test

import (
	"strings"
	"testing"
)

// row is the trace of a stream. Its schedule accepts everything if there is none, and blocks at once if it is empty.
type row struct {
	listing        string
	capacity, most int
	schedule       []int
	trace          string
}

// countActions returns the number of actions of a trace.
func countActions(trace string) int { return strings.Count(trace, "; ") + 1 }

// follow checks traces, and that more actions do what the last one has done.
func follow(t *testing.T, rows []row) {
	t.Helper()
	for _, c := range rows {
		if c.schedule == nil {
			c.schedule = accepting(100)
		}
		r := rigged(t, assemble(c.listing), provided(sample(), "bad"), c.capacity, c.most, c.schedule...)
		if got := r.traced(countActions(c.trace)); got != c.trace {
			t.Errorf("%s, %d, %d, %d: %s, want %s", c.listing, c.capacity, c.most, c.schedule[:min(9, len(c.schedule))], got, c.trace)
		}
		last := c.trace[strings.LastIndex(c.trace, "error "):]
		for range 3 {
			if got := r.acted(); got != last {
				t.Errorf("%s, %d, %d: then %s, not %s", c.listing, c.capacity, c.most, got, last)
			}
		}
	}
}

func TestExample(t *testing.T) { // P20.2, P20.4, P20.5, P20.6
	trace := `at 1 ready 1; ready 0 buffered 1; at 2 flushing; buffered 0 pending 6 chunks 1; pending 0 writes "1|a|"; flushes 1 running; ` +
		`at 3 ready 1; ready 0 buffered 1; halted; buffered 0 pending 6 chunks 2; pending 0 writes "1|b|"; pending 5; pending 0 writes "0||" done; error 4`
	follow(t, []row{{"text a;flush;text b;halt", 8, 8, nil, trace}})
	r := rigged(t, compiled(t, "a{{flush}}b"), provided(nil), 8, 8, accepting(3)...)
	if got := r.traced(countActions(trace)); got != trace {
		t.Error(got)
	}
	if got := string(r.w.Bytes()); got != "1\r\na\r\n1\r\nb\r\n0\r\n\r\n" {
		t.Errorf("%q", got)
	}
}

// TestFillingTheRing has a ring buffer that becomes full, and one from whose full state one byte is missing.
func TestFillingTheRing(t *testing.T) { // P20.2 (actions 4, 5 and 6), P20.4
	follow(t, []row{
		{"text ab;halt", 3, 3, nil, `at 1 ready 2; ready 0 buffered 2; halted; buffered 0 pending 7 chunks 1; pending 0 writes "2|ab|"; pending 5; pending 0 writes "0||" done; error 4`},
		{"text ab;halt", 2, 2, nil, `at 1 ready 2; ready 0 buffered 2; buffered 0 pending 7 chunks 1; pending 0 writes "2|ab|"; halted; pending 5; pending 0 writes "0||" done; error 4`},
		{"text ab;halt", 1, 1, nil, `at 1 ready 2; ready 1 buffered 1; buffered 0 pending 6 chunks 1; pending 0 writes "1|a|"; ready 0 buffered 1; ` +
			`buffered 0 pending 6 chunks 2; pending 0 writes "1|b|"; halted; pending 5; pending 0 writes "0||" done; error 4`},
		{"text ab;text cd;halt", 3, 3, nil, `at 1 ready 2; ready 0 buffered 2; at 2 ready 2; ready 1 buffered 3; buffered 0 pending 8 chunks 1; pending 0 writes "3|abc|"; ` +
			`ready 0 buffered 1; halted; buffered 0 pending 6 chunks 2; pending 0 writes "1|d|"; pending 5; pending 0 writes "0||" done; error 4`},
		{"text ab;text cd;halt", 4, 4, nil, `at 1 ready 2; ready 0 buffered 2; at 2 ready 2; ready 0 buffered 4; buffered 0 pending 9 chunks 1; pending 0 writes "4|abcd|"; ` +
			`halted; pending 5; pending 0 writes "0||" done; error 4`},
		{"text ab;text c;text d;halt", 5, 5, nil, `at 1 ready 2; ready 0 buffered 2; at 2 ready 1; ready 0 buffered 3; at 3 ready 1; ready 0 buffered 4; halted; ` +
			`buffered 0 pending 9 chunks 1; pending 0 writes "4|abcd|"; pending 5; pending 0 writes "0||" done; error 4`},
		{"text ;print e;text a;text ;halt", 2, 1, nil, `at 1; at 2; at 3 ready 1; ready 0 buffered 1; at 4; halted; ` +
			`buffered 0 pending 6 chunks 1; pending 0 writes "1|a|"; pending 5; pending 0 writes "0||" done; error 4`},
		{"text a;text ;print e;halt", 1, 1, nil, `at 1 ready 1; ready 0 buffered 1; buffered 0 pending 6 chunks 1; pending 0 writes "1|a|"; at 2; at 3; halted; pending 5; pending 0 writes "0||" done; error 4`},
		{"text ;halt", 1, 1, nil, `at 1; halted; pending 5; pending 0 writes "0||" done; error 4`},
	})
}

// TestSizesOfChunks has chunks that may contain less and more than the ring buffer.
func TestSizesOfChunks(t *testing.T) { // P20.2 (actions 3 to 5), P20.4, P20.5
	follow(t, []row{
		{"text abc;halt", 2, 1, nil, `at 1 ready 3; ready 1 buffered 2; buffered 1 pending 6 chunks 1; pending 0 writes "1|a|"; ready 0 buffered 2; ` +
			`buffered 1 pending 6 chunks 2; pending 0 writes "1|b|"; halted; buffered 0 pending 6 chunks 3; pending 0 writes "1|c|"; pending 5; pending 0 writes "0||" done; error 4`},
		{"text abcde;halt", 3, 2, nil, `at 1 ready 5; ready 2 buffered 3; buffered 1 pending 7 chunks 1; pending 0 writes "2|ab|"; ready 0 buffered 3; ` +
			`buffered 1 pending 7 chunks 2; pending 0 writes "2|cd|"; halted; buffered 0 pending 6 chunks 3; pending 0 writes "1|e|"; pending 5; pending 0 writes "0||" done; error 4`},
		{"text abc;halt", 3, 1, nil, `at 1 ready 3; ready 0 buffered 3; buffered 2 pending 6 chunks 1; pending 0 writes "1|a|"; halted; ` +
			`buffered 1 pending 6 chunks 2; pending 0 writes "1|b|"; buffered 0 pending 6 chunks 3; pending 0 writes "1|c|"; pending 5; pending 0 writes "0||" done; error 4`},
		{"text abcd;halt", 3, 65536, nil, `at 1 ready 4; ready 1 buffered 3; buffered 0 pending 8 chunks 1; pending 0 writes "3|abc|"; ready 0 buffered 1; halted; ` +
			`buffered 0 pending 6 chunks 2; pending 0 writes "1|d|"; pending 5; pending 0 writes "0||" done; error 4`},
		{"text abcdefghijklmnopq;halt", 65536, 16, nil, `at 1 ready 17; ready 0 buffered 17; halted; buffered 1 pending 22 chunks 1; pending 0 writes "10|abcdefghijklmnop|"; ` +
			`buffered 0 pending 6 chunks 2; pending 0 writes "1|q|"; pending 5; pending 0 writes "0||" done; error 4`},
		{"print s;halt", 4, 3, nil, `at 1 ready 9; ready 5 buffered 4; buffered 1 pending 8 chunks 1; pending 0 writes "3|&lt|"; ready 2 buffered 4; ` +
			`buffered 1 pending 8 chunks 2; pending 0 writes "3|;x&|"; ready 0 buffered 3; halted; buffered 0 pending 8 chunks 3; pending 0 writes "3|gt;|"; pending 5; pending 0 writes "0||" done; error 4`},
	})
}

// TestWrites has writers that accept nothing, a part, all, and more.
func TestWrites(t *testing.T) { // P20.2 (action 3), P20.4, P20.5
	start := `at 1 ready 2; ready 0 buffered 2; buffered 0 pending 7 chunks 1; `
	follow(t, []row{
		{"text ab;halt", 2, 2, []int{0, 2, 1, 0, 0, 3, 9, 1, 0, 9}, start + `writes ""; pending 5 writes "2\r"; pending 4 writes "\n"; writes ""; writes ""; pending 1 writes "ab\r"; pending 0 writes "\n"; ` +
			`halted; pending 5; pending 4 writes "0"; writes ""; pending 0 writes "||" done; error 4`},
		{"text ab;halt", 2, 2, []int{7, 5, 1}, start + `pending 0 writes "2|ab|"; halted; pending 5; pending 0 writes "0||" done; error 4`},
		{"text ab;halt", 2, 2, []int{6, 2, 4, 2, -1}, start + `pending 1 writes "2|ab\r"; pending 0 writes "\n"; halted; pending 5; pending 1 writes "0|\r"; pending 0 writes "\n" done; error 4`},
		{"text ab;halt", 2, 2, []int{8, 6, -1}, start + `pending 0 writes "2|ab|"; halted; pending 5; pending 0 writes "0||" done; error 4`},
	})
}

func TestBlocks(t *testing.T) { // P20.2 (action 3), P20.4
	start := `at 1 ready 3; ready 1 buffered 2; buffered 0 pending 7 chunks 1; `
	follow(t, []row{
		{"text abc;halt", 2, 2, []int{}, start + `error 10`},
		{"text abc;halt", 2, 2, []int{0}, start + `writes ""; error 10`},
		{"text abc;halt", 2, 2, []int{3}, start + `pending 4 writes "2|"; error 10`},
		{"text abc;halt", 2, 2, []int{7}, start + `pending 0 writes "2|ab|"; ready 0 buffered 1; halted; buffered 0 pending 6 chunks 2; error 10`},
		{"text abc;halt", 2, 2, []int{7, 6}, start + `pending 0 writes "2|ab|"; ready 0 buffered 1; halted; buffered 0 pending 6 chunks 2; pending 0 writes "1|c|"; pending 5; error 10`},
		{"text abc;halt", 2, 2, []int{7, 6, 4}, start + `pending 0 writes "2|ab|"; ready 0 buffered 1; halted; buffered 0 pending 6 chunks 2; pending 0 writes "1|c|"; pending 5; pending 1 writes "0|\r"; error 10`},
		{"text abc;flush;text d;halt", 3, 2, []int{1}, `at 1 ready 3; ready 0 buffered 3; buffered 1 pending 7 chunks 1; pending 6 writes "2"; error 10`},
		{"text abc;flush;text d;halt", 3, 2, []int{7}, `at 1 ready 3; ready 0 buffered 3; buffered 1 pending 7 chunks 1; pending 0 writes "2|ab|"; at 2 flushing; buffered 0 pending 6 chunks 2; error 10`},
		{"halt", 2, 2, []int{}, `halted; pending 5; error 10`},
		{"print x;halt", 2, 2, []int{}, `failed; broken error 17`},
	})
}

func TestFailuresOfTheWriter(t *testing.T) { // P20.2 (actions 1 and 3), P20.4, P20.7
	start := `at 1 ready 3; ready 1 buffered 2; buffered 0 pending 7 chunks 1; `
	follow(t, []row{
		{"text abc;halt", 2, 2, []int{-1, 9, 9}, start + `writes "" broken error 9; error 9`},
		{"text abc;halt", 2, 2, []int{0, -1, 9}, start + `writes ""; writes "" broken error 9; error 9`},
		{"text abc;halt", 2, 2, []int{3, -9, 9}, start + `pending 4 writes "2|"; writes "" broken error 9; error 9`},
		{"text abc;halt", 2, 2, []int{7, -1, 9}, start + `pending 0 writes "2|ab|"; ready 0 buffered 1; halted; buffered 0 pending 6 chunks 2; writes "" broken error 9; error 9`},
		{"text abc;halt", 2, 2, []int{7, 6, 4, -1}, start + `pending 0 writes "2|ab|"; ready 0 buffered 1; halted; buffered 0 pending 6 chunks 2; pending 0 writes "1|c|"; pending 5; pending 1 writes "0|\r"; writes "" broken error 9; error 9`},
		{"text abc;print x;halt", 3, 3, []int{7, -1, 9}, `at 1 ready 3; ready 0 buffered 3; buffered 0 pending 8 chunks 1; pending 1 writes "3|abc\r"; writes "" broken error 9; error 9`},
		{"text ab;print x;halt", 3, 1, []int{5, -1, 9}, `at 1 ready 2; ready 0 buffered 2; failed; buffered 1 pending 6 chunks 1; pending 1 writes "1|a\r"; writes "" broken error 9; error 9`},
		{"text ab;flush;halt", 3, 1, []int{-1, 9}, `at 1 ready 2; ready 0 buffered 2; at 2 flushing; buffered 1 pending 6 chunks 1; writes "" broken error 9; error 9`},
		{"halt", 1, 1, []int{-1}, `halted; pending 5; writes "" broken error 9; error 9`},
	})
}

func TestFailuresOfTheMachine(t *testing.T) { // P20.2 (actions 1, 6 and 9), P20.4, P20.7
	follow(t, []row{
		{"print x;halt", 2, 2, nil, `failed; broken error 17; error 17`},
		{"print bad;halt", 2, 2, nil, `failed; broken error 20; error 20`},
		{"text abc;print l;halt", 2, 2, nil, `at 1 ready 3; ready 1 buffered 2; buffered 0 pending 7 chunks 1; pending 0 writes "2|ab|"; ready 0 buffered 1; failed; ` +
			`buffered 0 pending 6 chunks 2; pending 0 writes "1|c|"; broken error 18; error 18`},
		{"text abc;if x 2;halt", 3, 1, nil, `at 1 ready 3; ready 0 buffered 3; buffered 2 pending 6 chunks 1; pending 0 writes "1|a|"; failed; ` +
			`buffered 1 pending 6 chunks 2; pending 0 writes "1|b|"; buffered 0 pending 6 chunks 3; pending 0 writes "1|c|"; broken error 17; error 17`},
		{"text ab;flush;print x;halt", 2, 2, nil, `at 1 ready 2; ready 0 buffered 2; buffered 0 pending 7 chunks 1; pending 0 writes "2|ab|"; at 2 flushing; flushes 1 running; failed; broken error 17; error 17`},
		{"text a;flush;text b;print x;halt", 9, 9, nil, `at 1 ready 1; ready 0 buffered 1; at 2 flushing; buffered 0 pending 6 chunks 1; pending 0 writes "1|a|"; flushes 1 running; ` +
			`at 3 ready 1; ready 0 buffered 1; failed; buffered 0 pending 6 chunks 2; pending 0 writes "1|b|"; broken error 17; error 17`},
		{"ret", 1, 1, nil, `failed; broken error 4; error 4`}, // code of no template
		{"text a;next 0;halt", 2, 2, nil, `at 1 ready 1; ready 0 buffered 1; failed; buffered 0 pending 6 chunks 1; pending 0 writes "1|a|"; broken error 4; error 4`},
		{"range l 2;print .;ret", 2, 2, nil, `at 1 frames 1; at 2 ready 1; ready 0 buffered 1; failed; buffered 0 pending 6 chunks 1; pending 0 writes "1|a|"; broken error 4; error 4`},
	})
}

func TestFlushes(t *testing.T) { // P20.2 (actions 4 and 7), P20.4, P20.6
	end := `halted; pending 5; pending 0 writes "0||" done; error 4`
	follow(t, []row{
		{"flush;flush;halt", 2, 2, nil, `at 1 flushing; flushes 1 running; at 2 flushing; flushes 2 running; ` + end},
		{"flush;text a;halt", 2, 2, nil, `at 1 flushing; flushes 1 running; at 2 ready 1; ready 0 buffered 1; halted; buffered 0 pending 6 chunks 1; pending 0 writes "1|a|"; pending 5; pending 0 writes "0||" done; error 4`},
		{"text a;flush;flush;halt", 2, 2, nil, `at 1 ready 1; ready 0 buffered 1; at 2 flushing; buffered 0 pending 6 chunks 1; pending 0 writes "1|a|"; flushes 1 running; at 3 flushing; flushes 2 running; ` + end},
		{"text ab;flush;halt", 2, 2, nil, `at 1 ready 2; ready 0 buffered 2; buffered 0 pending 7 chunks 1; pending 0 writes "2|ab|"; at 2 flushing; flushes 1 running; ` + end},
		{"text ab;flush;halt", 2, 1, nil, `at 1 ready 2; ready 0 buffered 2; buffered 1 pending 6 chunks 1; pending 0 writes "1|a|"; at 2 flushing; buffered 0 pending 6 chunks 2; pending 0 writes "1|b|"; flushes 1 running; ` + end},
		{"text abc;flush;halt", 4, 1, nil, `at 1 ready 3; ready 0 buffered 3; at 2 flushing; buffered 2 pending 6 chunks 1; pending 0 writes "1|a|"; ` +
			`buffered 1 pending 6 chunks 2; pending 0 writes "1|b|"; buffered 0 pending 6 chunks 3; pending 0 writes "1|c|"; flushes 1 running; ` + end},
		{"range l 4;print .;flush;next 1;halt", 8, 8, nil, `at 1 frames 1; at 2 ready 1; ready 0 buffered 1; at 3 flushing; buffered 0 pending 6 chunks 1; pending 0 writes "1|a|"; flushes 1 running; ` +
			`at 1; at 2 ready 1; ready 0 buffered 1; at 3 flushing; buffered 0 pending 6 chunks 2; pending 0 writes "1|b|"; flushes 2 running; ` +
			`at 1; at 2 ready 1; ready 0 buffered 1; at 3 flushing; buffered 0 pending 6 chunks 3; pending 0 writes "1|c|"; flushes 3 running; at 4 frames 0; ` + end},
		{"text a;call m 3;halt;print s;flush;ret", 8, 8, nil, `at 1 ready 1; ready 0 buffered 1; at 3 frames 1; at 4 ready 6; ready 0 buffered 7; at 5 flushing; ` +
			`buffered 0 pending 12 chunks 1; pending 0 writes "7|am&amp;|"; flushes 1 running; at 2 frames 0; ` + end},
	})
}

// TestEnds has machines that halt at once, or in a frame.
func TestEnds(t *testing.T) { // P20.2 (actions 2 and 8), P20.4, P20.5
	end := `halted; pending 5; pending 0 writes "0||" done; error 4`
	follow(t, []row{
		{"halt", 1, 1, nil, end},
		{"halt", 65536, 65536, nil, end},
		{"range l 1;halt", 1, 1, nil, `at 1 frames 1; ` + end},
		{"jump 2;text a;halt", 1, 1, nil, `at 2; ` + end},
		{"call 2;halt;halt", 1, 1, nil, `at 2 frames 1; ` + end},
	})
}
