package machine_test

import (
	"math"
	"strings"
	"testing"

	"tmplpipe/api"
	"tmplpipe/machine"
)

func TestNilMachine(t *testing.T) { // the sentence below the function list
	var m *machine.Machine
	for range 2 {
		if err := m.Step(); err != api.ErrNil {
			t.Error("Step =", err)
		}
		if err := m.Resume(); err != api.ErrNil {
			t.Error("Resume =", err)
		}
		for _, n := range sizes() {
			if b := m.Take(n); len(b) > 0 {
				t.Errorf("Take(%d) = %q", n, b)
			}
		}
		if m.Ready() != 0 || m.Status() != machine.Running || m.Err() != api.OK || m.Steps() != 0 || m.Index() != 0 || m.Frames() != 0 {
			t.Error(m.Ready(), m.Status(), m.Err(), m.Steps(), m.Index(), m.Frames())
		}
	}
}

// TestStatusValues has the values of the constants, which the chapter specifies.
func TestStatusValues(t *testing.T) { // P19.4
	if machine.Running != 0 || machine.Flushing != 1 || machine.Halted != 2 || machine.Failed != 3 {
		t.Error(machine.Running, machine.Flushing, machine.Halted, machine.Failed)
	}
}

// sizes are arguments of Take.
func sizes() []int {
	return []int{math.MinInt, math.MinInt + 1, math.MinInt32, -2, -1, 0, 1, 2, 3, 4, 5, 6, 100, math.MaxInt32, 1 << 32, math.MaxInt - 1, math.MaxInt}
}

// TestAllCalls has all sequences of five calls, behind each number of instructions of several codes.
func TestAllCalls(t *testing.T) { // P19.2, P19.3, P19.4
	calls := []func(p pair){
		func(p pair) { p.step(t) },
		func(p pair) { p.resume(t) },
		func(p pair) { p.take(t, 1) },
		func(p pair) { p.take(t, 2) },
		func(p pair) { p.take(t, -1) },
	}
	var more func(left int, made []int, see func(made []int))
	more = func(left int, made []int, see func(made []int)) {
		if left == 0 {
			see(made)
			return
		}
		for i := range calls {
			more(left-1, append(made, i), see)
		}
	}
	w := worldOf(sample(), "bad")
	for _, listing := range []string{
		"text abc;flush;print n;halt",
		"flush;flush;text a;ret",
		"range one 3;print .;next 1;print x;halt",
		"call m 2;halt;print s;flush;ret",
		"text a;print bad;halt",
		"text ;halt",
	} {
		code := assemble(listing)
		for before := range len(code) + 1 {
			more(5, nil, func(made []int) {
				p := paired(t, code, w)
				p.agrees(t)
				for range before {
					p.step(t)
					p.take(t, 100)
					p.resume(t)
				}
				for _, i := range made {
					calls[i](p)
				}
				p.pulls(t)
			})
		}
	}
}

// TestAllStatuses has each call in each status, with and without output.
func TestAllStatuses(t *testing.T) { // P19.2, P19.3, P19.4
	for _, c := range []struct {
		listing string
		before  func(m *machine.Machine)
		status  int
		ready   int
		step    api.Errno
		resume  api.Errno
	}{
		{"text abc;halt", func(m *machine.Machine) {}, machine.Running, 0, api.OK, api.ErrState},
		{"text abc;halt", func(m *machine.Machine) { m.Step() }, machine.Running, 3, api.ErrState, api.ErrState},
		{"text abc;halt", func(m *machine.Machine) { m.Step(); m.Take(2) }, machine.Running, 1, api.ErrState, api.ErrState},
		{"text abc;halt", func(m *machine.Machine) { m.Step(); m.Take(3) }, machine.Running, 0, api.OK, api.ErrState},
		{"text ;halt", func(m *machine.Machine) { m.Step() }, machine.Running, 0, api.OK, api.ErrState},
		{"print s;halt", func(m *machine.Machine) { m.Step() }, machine.Running, 9, api.ErrState, api.ErrState},
		{"print x;halt", func(m *machine.Machine) {}, machine.Running, 0, api.ErrMissing, api.ErrState},
		{"text ;ret", func(m *machine.Machine) { m.Step() }, machine.Running, 0, api.ErrState, api.ErrState},
		{"flush;halt", func(m *machine.Machine) { m.Step() }, machine.Flushing, 0, api.ErrState, api.OK},
		{"flush;flush;halt", func(m *machine.Machine) { m.Step(); m.Resume(); m.Step() }, machine.Flushing, 0, api.ErrState, api.OK},
		{"flush;halt", func(m *machine.Machine) { m.Step(); m.Resume() }, machine.Running, 0, api.OK, api.ErrState},
		{"text a;flush;halt", func(m *machine.Machine) { m.Step(); m.Take(1); m.Step() }, machine.Flushing, 0, api.ErrState, api.OK},
		{"halt", func(m *machine.Machine) { m.Step() }, machine.Halted, 0, api.ErrState, api.ErrState},
		{"print x;halt", func(m *machine.Machine) { m.Step() }, machine.Failed, 0, api.ErrState, api.ErrState},
		{"ret", func(m *machine.Machine) { m.Step() }, machine.Failed, 0, api.ErrState, api.ErrState},
	} {
		prepared := func() *machine.Machine {
			m := machineFor(t, assemble(c.listing), provided(sample(), "bad"))
			c.before(m)
			if m.Status() != c.status || m.Ready() != c.ready {
				t.Errorf("%s: status %d, %d bytes", c.listing, m.Status(), m.Ready())
			}
			return m
		}
		// A call that returns an error leaves the machine as it is, but for a step that fails.
		if m := prepared(); m.Step() != c.step {
			t.Errorf("%s: Step is not %v", c.listing, c.step)
		} else if c.step == api.ErrState && c.listing != "text ;ret" {
			same(t, m, prepared())
		}
		if m := prepared(); m.Resume() != c.resume {
			t.Errorf("%s: Resume is not %v", c.listing, c.resume)
		} else if c.resume != api.OK {
			same(t, m, prepared())
		} else if m.Status() != machine.Running || m.Steps() != prepared().Steps() || m.Index() != prepared().Index() {
			t.Errorf("%s: status %d, %d steps, index %d", c.listing, m.Status(), m.Steps(), m.Index())
		}
		for _, n := range sizes() {
			m := prepared()
			b := m.Take(n)
			if want := max(0, min(n, c.ready)); len(b) != want || m.Ready() != c.ready-want {
				t.Errorf("%s: Take(%d) = %q, then %d bytes", c.listing, n, b, m.Ready())
			}
			m.Take(m.Ready())
			other := prepared()
			other.Take(other.Ready())
			same(t, m, other)
		}
	}
}

// same checks that two machines agree.
func same(t *testing.T, a, b *machine.Machine) {
	t.Helper()
	if a.Status() != b.Status() || a.Err() != b.Err() || a.Steps() != b.Steps() || a.Index() != b.Index() || a.Frames() != b.Frames() || a.Ready() != b.Ready() {
		t.Errorf("%v %v %d %d %d %d, want %v %v %d %d %d %d", a.Status(), a.Err(), a.Steps(), a.Index(), a.Frames(), a.Ready(), b.Status(), b.Err(), b.Steps(), b.Index(), b.Frames(), b.Ready())
	}
}

// TestFailuresArePermanent has calls behind a failure of each kind, and behind the end.
func TestFailuresArePermanent(t *testing.T) { // P19.2, P19.3, P19.4
	for _, c := range []struct {
		code   []api.Ins
		err    api.Errno
		status int
	}{
		{assemble("text a;halt"), api.OK, machine.Halted},
		{assemble("print x;halt"), api.ErrMissing, machine.Failed},
		{assemble("if n 1;halt"), api.ErrType, machine.Failed},
		{assemble("range bad 1;halt"), api.ErrProvider, machine.Failed},
		{assemble("next 0;halt"), api.ErrState, machine.Failed},
		{assemble("flush;ret"), api.ErrState, machine.Failed},
		{assemble("call 0;ret"), api.ErrDepth, machine.Failed},
		{[]api.Ins{{Op: api.OpText, S: strings.Repeat("a", api.MaxOutput+1)}, {Op: api.OpHalt}}, api.ErrLimit, machine.Failed},
	} {
		m := machineFor(t, c.code, provided(sample(), "bad"))
		for m.Status() == machine.Running || m.Status() == machine.Flushing {
			m.Step()
			m.Take(5)
			m.Resume()
		}
		steps, index, frames := m.Steps(), m.Index(), m.Frames()
		for range 3 {
			if m.Step() != api.ErrState || m.Resume() != api.ErrState || len(m.Take(1)) > 0 || m.Ready() != 0 {
				t.Error(c.code)
			}
			if m.Err() != c.err || m.Status() != c.status || m.Steps() != steps || m.Index() != index || m.Frames() != frames {
				t.Error(c.code, m.Err(), m.Status(), m.Steps(), m.Index(), m.Frames())
			}
		}
	}
}
