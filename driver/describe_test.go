package driver_test

import (
	"fmt"
	"slices"
	"strings"
	"testing"

	"tmplpipe/api"
	"tmplpipe/compile"
	"tmplpipe/dechunk"
	"tmplpipe/driver"
	"tmplpipe/machine"
	"tmplpipe/model"
	"tmplpipe/provider"
)

// description is a driver as the chapters describe it: with the layers up to the machine, and with a ring buffer, a framer
// and a writer that are strings. Its report is what Report is to return.
type description struct {
	c                 driver.Config
	p                 *provider.Provider
	m                 *machine.Machine
	outcomes          []int
	buffered, pending string
	finished          bool
	failure           api.Errno // of the stream
	report            driver.Report
}

// described returns the description of a new driver for a configuration that is accepted.
func described(t *testing.T, c driver.Config) *description {
	t.Helper()
	code, _, err := compile.Compile(c.Source)
	if err != api.OK {
		t.Fatal(err)
	}
	p, err := provider.New(c.Fields, c.Fail)
	if err != api.OK {
		t.Fatal(err)
	}
	m, err := machine.New(code, p)
	if err != api.OK {
		t.Fatal(err)
	}
	return &description{c: c, p: p, m: m}
}

// write offers the pending bytes to the writer, which has not failed, since a stream with an error does not write.
func (d *description) write() api.Errno {
	if len(d.outcomes) == 0 {
		return api.ErrBlocked
	}
	outcome := d.outcomes[0]
	d.outcomes = d.outcomes[1:]
	d.report.Calls++
	if outcome < 0 {
		d.failure = api.ErrWrite
		return api.ErrWrite
	}
	n := min(outcome, len(d.pending))
	d.report.Wire = append(d.report.Wire, d.pending[:n]...)
	d.pending = d.pending[n:]
	return api.OK
}

// chunk makes the first bytes of the ring buffer pending.
func (d *description) chunk() {
	n := min(len(d.buffered), d.c.Most)
	d.pending = fmt.Sprintf("%x\r\n%s\r\n", n, d.buffered[:n])
	d.buffered = d.buffered[n:]
	d.report.Chunks++
}

// action performs the first action of the list that applies to a stream that is not done.
func (d *description) action() api.Errno {
	waits := d.m.Ready() == 0 && d.m.Status() != machine.Running
	switch {
	case d.failure != api.OK:
		return d.failure
	case d.pending != "":
		return d.write()
	case len(d.buffered) == d.c.Capacity || d.buffered != "" && waits:
		d.chunk()
	case d.m.Ready() > 0:
		d.buffered += string(d.m.Take(d.c.Capacity - len(d.buffered)))
	case d.m.Status() == machine.Running:
		d.m.Step()
	case d.m.Status() == machine.Flushing:
		d.m.Resume()
		d.report.Flushes++
	case d.m.Status() == machine.Halted:
		d.pending, d.finished = "0\r\n\r\n", true
	default:
		d.failure = d.m.Err()
		return d.failure
	}
	return api.OK
}

// feed does what Feed is to do.
func (d *description) feed(schedule ...int) api.Errno {
	d.outcomes = append(slices.Clone(d.outcomes), schedule...)
	d.report.Err = api.OK
	for !d.report.Done && d.report.Err == api.OK {
		if d.report.Err = d.action(); d.report.Err == api.OK {
			d.report.Actions++
		}
		d.report.Done = d.finished && d.pending == ""
	}
	d.report.Steps, d.report.Pulls = d.m.Steps(), d.p.Pulls()
	return d.report.Err
}

// pair is a driver and its description, and what follows for its reports from what is rendered.
type pair struct {
	driver *driver.Driver
	d      *description
	fed    []int // all outcomes
	result model.Result
	pulls  []string
	body   string
}

func paired(t *testing.T, c driver.Config) *pair {
	t.Helper()
	r, pulls := rendered(t, c)
	return &pair{driver: opened(t, c), d: described(t, c), result: r, pulls: pulls, body: body(r, min(c.Capacity, c.Most))}
}

// feed feeds both, and checks the report.
func (q *pair) feed(t *testing.T, schedule ...int) api.Errno {
	t.Helper()
	q.fed = append(q.fed, schedule...)
	want := q.d.feed(schedule...)
	if err := q.driver.Feed(schedule...); err != want {
		t.Fatalf("%.300q, %d: %v, want %v", q.d.c.Source, q.fed, err, want)
	}
	r := q.driver.Report()
	equal(t, r, q.d.report)
	q.check(t, r)
	return want
}

// check checks what follows for a report.
func (q *pair) check(t *testing.T, r driver.Report) {
	t.Helper()
	chunks := dechunk.New()
	if err := chunks.Feed(r.Wire); err != api.OK || chunks.Complete() != r.Done {
		t.Fatalf("%s: %v", shown(r), err)
	}
	if !strings.HasPrefix(q.body, string(r.Wire)) || !strings.HasPrefix(q.result.Out, string(chunks.Payload())) || r.Done && len(r.Wire) != len(q.body) {
		t.Fatalf("%s, of %q, of %q", shown(r), q.body, q.result.Out)
	}
	if r.Steps > q.result.Steps || r.Flushes > len(q.result.Flush) || len(r.Pulls) > len(q.pulls) || !slices.Equal(r.Pulls, q.pulls[:len(r.Pulls)]) {
		t.Fatalf("%s, of %+v, %v", shown(r), q.result, q.pulls)
	}
	switch r.Err {
	case api.ErrBlocked:
		if r.Calls != len(q.fed) || len(r.Wire) == len(q.body) && r.Wire != nil {
			t.Fatalf("%s, of %q, behind %d", shown(r), q.body, q.fed)
		}
	case api.ErrWrite:
		if r.Calls < 1 || q.fed[r.Calls-1] >= 0 || slices.ContainsFunc(q.fed[:r.Calls-1], negative) {
			t.Fatalf("%s, behind %d", shown(r), q.fed)
		}
	default:
		q.checkEnd(t, r)
	}
}

func negative(outcome int) bool { return outcome < 0 }

// checkEnd checks what follows for the report of a driver that is done, or whose machine has failed.
func (q *pair) checkEnd(t *testing.T, r driver.Report) {
	t.Helper()
	if string(r.Wire) != q.body || r.Err != q.result.Err || r.Done != (q.result.Err == api.OK) || r.Steps != q.result.Steps || r.Flushes != len(q.result.Flush) || !slices.Equal(r.Pulls, q.pulls) {
		t.Fatalf("%s, of %+v, %v", shown(r), q.result, q.pulls)
	}
}
