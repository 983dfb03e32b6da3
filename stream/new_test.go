package stream_test

import (
	"math"
	"testing"

	"tmplpipe/api"
	"tmplpipe/machine"
	"tmplpipe/stream"
	"tmplpipe/writer"
)

// refused checks that New returns an error, and that it changes neither of its objects.
func refused(t *testing.T, m *machine.Machine, w *writer.Writer, capacity, most int, want api.Errno) {
	t.Helper()
	if s, err := stream.New(m, w, capacity, most); s != nil || err != want {
		t.Errorf("New(%v, %v, %d, %d) = %v, %v, want %v", m != nil, w != nil, capacity, most, s, err, want)
	}
	if m.Steps() != 0 || m.Ready() != 0 || w.Calls() != 0 || len(w.Bytes()) > 0 {
		t.Error("New has used its objects")
	}
}

func TestNewWithoutObjects(t *testing.T) { // P20.1
	for _, size := range [][2]int{{1, 1}, {8, 8}, {api.MaxRing, api.MaxChunk}, {0, 1}, {1, 0}, {-1, math.MaxInt}, {math.MinInt, 5}, {api.MaxRing + 1, api.MaxChunk + 1}} {
		m, w := machineFor(t, assemble("text a;halt"), sampled()), writer.New(1)
		refused(t, nil, w, size[0], size[1], api.ErrNil)
		refused(t, m, nil, size[0], size[1], api.ErrNil)
		refused(t, nil, nil, size[0], size[1], api.ErrNil)
	}
}

func TestNewChecksSizes(t *testing.T) { // P20.1
	wrong := []int{math.MinInt, math.MinInt + 1, -65536, -1, 0, 65537, 65538, 1 << 32, math.MaxInt}
	right := []int{1, 2, 3, 100, 4096, 65535, 65536}
	m, w := machineFor(t, assemble("text a;halt"), sampled()), writer.New(1)
	for _, a := range wrong {
		for _, b := range right {
			refused(t, m, w, a, b, api.ErrRange)
			refused(t, m, w, b, a, api.ErrRange)
		}
		for _, b := range wrong {
			refused(t, m, w, a, b, api.ErrRange)
		}
	}
	for _, a := range right { // after all those, the same objects can still be used
		for _, b := range right {
			if got := connected(t, sampled(), m, w, a, b).look(); got != (sight{left: 1}) {
				t.Errorf("%d, %d: %+v", a, b, got)
			}
		}
	}
}

// TestNew has streams in their initial state, for which nothing is done.
func TestNew(t *testing.T) { // P20.1, P20.4
	for _, listing := range []string{"halt", "text a;halt", "print s;halt", "print x;halt", "flush;halt", "ret"} {
		for _, schedule := range [][]int{nil, {-1}, {0}, {5, 5}} {
			r := rigged(t, assemble(listing), sampled(), 4, 3, schedule...)
			if got := r.look(); got != (sight{left: len(schedule)}) {
				t.Errorf("%s: %+v", listing, got)
			}
		}
	}
}

// TestSizesOfNew has one long text, with the least and the greatest sizes.
func TestSizesOfNew(t *testing.T) { // P20.1, P20.5
	sizes := []int{1, 2, 9, 99, 65535, 65536}
	for _, capacity := range sizes {
		for _, most := range sizes {
			q := pairedTemplate(t, filler(200)+"{{flush}}"+filler(101), sampled, capacity, most)
			if err := q.finish(t, repeated(accepting(1)...)); err != api.ErrState {
				t.Error(capacity, most, err)
			}
		}
	}
}

// used is a machine that has been used before, and what is delivered of the rest.
type used struct {
	listing string
	prepare func(m *machine.Machine)
	trace   string
}

// TestMachineThatWasUsed has machines with each status, and with output that has not been taken.
func TestMachineThatWasUsed(t *testing.T) { // P20.1, P20.2
	step := func(m *machine.Machine) { m.Step() }
	twice := func(m *machine.Machine) { m.Step(); m.Take(99); m.Step() }
	rest := `halted; buffered 0 pending 6 chunks 1; pending 0 writes "1|b|"; pending 5; pending 0 writes "0||" done; error 4`
	for _, c := range []used{
		{"text ab;halt", step, `ready 0 buffered 2; halted; buffered 0 pending 7 chunks 1; pending 0 writes "2|ab|"; pending 5; pending 0 writes "0||" done; error 4`},
		{"text ab;halt", func(m *machine.Machine) { m.Step(); m.Take(1) }, `ready 0 buffered 1; ` + rest},
		{"text ab;halt", func(m *machine.Machine) { m.Step(); m.Take(2) }, `halted; pending 5; pending 0 writes "0||" done; error 4`},
		{"text a;flush;text b;halt", twice, `flushes 1 running; at 3 ready 1; ready 0 buffered 1; ` + rest},
		{"text a;flush;text b;halt", func(m *machine.Machine) { twice(m); m.Resume() }, `at 3 ready 1; ready 0 buffered 1; ` + rest},
		{"text a;halt", twice, `pending 5; pending 0 writes "0||" done; error 4`},
		{"text a;print x;halt", twice, `broken error 17; error 17`},
		{"print l;halt", step, `broken error 18; error 18`},
		{"halt", step, `pending 5; pending 0 writes "0||" done; error 4`},
		{"call 2;halt;text b;ret", step, `at 3 ready 1; ready 0 buffered 1; at 1 frames 0; ` + rest},
	} {
		p := sampled()
		m := machineFor(t, assemble(c.listing), p)
		c.prepare(m)
		before := m.Steps()
		r := connected(t, p, m, writer.New(accepting(9)...), 8, 8)
		if r.s.Stats() != (stream.Stats{}) || r.s.Done() || r.s.Err() != api.OK || m.Steps() != before || r.w.Calls() != 0 {
			t.Errorf("%s: %+v", c.listing, r.look())
		}
		if got := r.traced(countActions(c.trace)); got != c.trace {
			t.Errorf("%s: %s, want %s", c.listing, got, c.trace)
		}
	}
}

// TestWriterThatWasUsed has writers that have accepted bytes, that have failed, and whose schedule is used up.
func TestWriterThatWasUsed(t *testing.T) { // P20.1, P20.2
	start := `halted; pending 5; `
	for _, c := range []struct {
		schedule []int
		trace    string
	}{
		{[]int{2, 9}, start + `pending 0 writes "0||" done; error 4`},
		{[]int{0, 1}, start + `pending 4 writes "0"; error 10`},
		{[]int{2}, start + `error 10; error 10`},
		{[]int{-1, 9}, start + `broken error 9; error 9`},
		{[]int{2, -1, 9}, start + `writes "" broken error 9; error 9`},
	} {
		w := writer.New(c.schedule...)
		w.Write([]byte("??"))
		p := sampled()
		r := connected(t, p, machineFor(t, assemble("halt"), p), w, 8, 8)
		if got := r.look(); got.stats != (stream.Stats{}) || got.calls != 1 || got.err != api.OK {
			t.Errorf("%d: %+v", c.schedule, got)
		}
		if got := r.traced(countActions(c.trace)); got != c.trace {
			t.Errorf("%d: %s, want %s", c.schedule, got, c.trace)
		}
	}
}
