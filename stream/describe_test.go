package stream_test

import (
	"fmt"
	"strings"
	"testing"

	"tmplpipe/api"
	"tmplpipe/dechunk"
	"tmplpipe/machine"
	"tmplpipe/model"
	"tmplpipe/provider"
	"tmplpipe/stream"
)

// description is a stream as its chapter describes it, with a machine of its own, and with the writer and its schedule.
type description struct {
	p              *provider.Provider
	m              *machine.Machine
	capacity, most int

	buffered, pending string
	finished          bool
	chunks, flushes   int
	err               api.Errno

	outcomes  []int
	calls     int
	failed    bool
	delivered string
}

// write offers the pending bytes to the writer.
func (d *description) write() (int, api.Errno) {
	if d.failed {
		return 0, api.ErrWrite
	}
	if len(d.outcomes) == 0 {
		return 0, api.ErrBlocked
	}
	outcome := d.outcomes[0]
	d.outcomes = d.outcomes[1:]
	d.calls++
	if outcome < 0 {
		d.failed = true
		return 0, api.ErrWrite
	}
	n := min(outcome, len(d.pending))
	d.delivered += d.pending[:n]
	return n, api.OK
}

// action performs the first action of the list that applies.
func (d *description) action() api.Errno {
	if d.err != api.OK {
		return d.err
	}
	if d.done() {
		return api.ErrState
	}
	if d.pending != "" {
		n, err := d.write()
		if err == api.ErrWrite {
			d.err = api.ErrWrite
		}
		if err == api.OK {
			d.pending = d.pending[n:]
		}
		return err
	}
	full := len(d.buffered) == d.capacity
	rest := len(d.buffered) > 0 && d.m.Ready() == 0 && d.m.Status() != machine.Running
	if full || rest {
		n := min(len(d.buffered), d.most)
		d.pending = fmt.Sprintf("%x\r\n%s\r\n", n, d.buffered[:n])
		d.buffered = d.buffered[n:]
		d.chunks++
		return api.OK
	}
	if d.m.Ready() > 0 {
		d.buffered += string(d.m.Take(d.capacity - len(d.buffered)))
		return api.OK
	}
	switch d.m.Status() {
	case machine.Running:
		d.m.Step()
	case machine.Flushing:
		d.m.Resume()
		d.flushes++
	case machine.Halted:
		d.pending = "0\r\n\r\n"
		d.finished = true
	case machine.Failed:
		d.err = d.m.Err()
		return d.err
	}
	return api.OK
}

func (d *description) done() bool { return d.finished && d.pending == "" }

// sight is all that can be seen of a rig that is like the description.
func (d *description) sight() sight {
	return sight{
		stream.Stats{Buffered: len(d.buffered), Pending: len(d.pending), Chunks: d.chunks, Flushes: d.flushes}, d.done(), d.err,
		d.m.Status(), d.m.Index(), d.m.Steps(), d.m.Frames(), d.m.Ready(), d.m.Err(),
		strings.Join(d.p.Pulls(), " "), d.calls, len(d.outcomes), d.delivered,
	}
}

// pair is a rig and its description, which has a provider of its own.
type pair struct {
	rig
	d      *description
	chunks *dechunk.Decoder // of what has been delivered
	result *model.Result    // what the machine outputs, if that is known
	body   string           // the chunks of the result
}

// paired returns a pair for code, with providers of the same kind.
func paired(t *testing.T, code []api.Ins, provide func() *provider.Provider, capacity, most int, schedule ...int) *pair {
	t.Helper()
	p := provide()
	return &pair{
		rig:    rigged(t, code, provide(), capacity, most, schedule...),
		d:      &description{p: p, m: machineFor(t, code, p), capacity: capacity, most: most, outcomes: schedule},
		chunks: dechunk.New(),
	}
}

// pairedTemplate returns a pair for a template, whose result is known.
func pairedTemplate(t *testing.T, src string, provide func() *provider.Provider, capacity, most int, schedule ...int) *pair {
	t.Helper()
	q := paired(t, compiled(t, src), provide, capacity, most, schedule...)
	r := render(t, src, provide())
	q.result, q.body = &r, body(r, min(capacity, most))
	return q
}

// step performs an action in both, and checks what can be seen, and what is to follow from the list of the actions.
func (q *pair) step(t *testing.T) api.Errno {
	t.Helper()
	before := q.d.flushes
	delivered := len(q.d.delivered)
	want := q.d.action()
	if err := q.s.Step(); err != want {
		t.Fatalf("Step = %v, want %v", err, want)
	}
	got := q.look()
	if wanted := q.d.sight(); got != wanted {
		t.Fatalf("%+v, want %+v", got, wanted)
	}
	if got.stats.Buffered > q.d.capacity {
		t.Fatal("too much is buffered:", got.stats)
	}
	if got.delivered[delivered:] != "" {
		q.checkDelivered(t, got.delivered[delivered:])
	}
	if got.done != q.chunks.Complete() {
		t.Fatal("done:", got.done)
	}
	if got.stats.Flushes > before && q.result != nil {
		q.checkFlush(t, q.result.Flush[before])
	}
	return want
}

// checkDelivered checks bytes that have been delivered, with those before.
func (q *pair) checkDelivered(t *testing.T, b string) {
	t.Helper()
	if err := q.chunks.Feed([]byte(b)); err != api.OK {
		t.Fatalf("%q has no body behind %d bytes: %v", b, q.chunks.Offset(), err)
	}
	for _, size := range q.chunks.Sizes() {
		if size > q.d.capacity || size > q.d.most {
			t.Fatal("too long a chunk:", size)
		}
	}
	if q.result != nil && !strings.HasPrefix(q.body, q.d.delivered) {
		t.Fatalf("%q is delivered of %q", q.d.delivered, q.body)
	}
}

// checkFlush checks that the output before a flush mark has been delivered in complete chunks, and nothing else.
func (q *pair) checkFlush(t *testing.T, mark int) {
	t.Helper()
	if !q.chunks.Whole() || string(q.chunks.Payload()) != q.result.Out[:mark] {
		t.Fatalf("%q is delivered before the flush behind %q", q.d.delivered, q.result.Out[:mark])
	}
}

// finish performs actions until one of them returns an error that lasts, or until nothing extends a schedule that is used up.
func (q *pair) finish(t *testing.T, extension func() []int) api.Errno {
	t.Helper()
	for {
		switch err := q.step(t); err {
		case api.OK:
		case api.ErrBlocked:
			more := extension()
			if more == nil {
				return err
			}
			q.w.Extend(more...)
			q.d.outcomes = append(q.d.outcomes[:len(q.d.outcomes):len(q.d.outcomes)], more...)
		default:
			q.checkEnd(t, err)
			return err
		}
	}
}

// checkEnd checks what has been delivered when no more actions succeed: all, if the writer has not failed.
func (q *pair) checkEnd(t *testing.T, err api.Errno) {
	t.Helper()
	s := q.s.Stats()
	if err == api.ErrWrite {
		return
	}
	if !q.chunks.Whole() || s.Buffered > 0 || s.Pending > 0 || s.Chunks != q.chunksDelivered() {
		t.Fatalf("at the end %q is delivered, %+v", q.d.delivered, s)
	}
	if q.result == nil {
		return
	}
	if q.d.delivered != q.body || s.Flushes != len(q.result.Flush) || q.s.Err() != q.result.Err || q.s.Done() != (q.result.Err == api.OK) {
		t.Fatalf("at the end %q is delivered, %+v, of %+v", q.d.delivered, s, q.result)
	}
}

// chunksDelivered returns the number of chunks that have been delivered, without the last chunk.
func (q *pair) chunksDelivered() int {
	n := 0
	for _, size := range q.chunks.Sizes() {
		if size > 0 {
			n++
		}
	}
	return n
}
