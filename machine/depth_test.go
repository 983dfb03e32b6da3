package machine_test

import (
	"fmt"
	"strings"
	"testing"

	"tmplpipe/api"
	"tmplpipe/machine"
)

// calls is the listing of a number of calls, each of the instruction behind it.
func calls(number int, path string) string {
	var b strings.Builder
	for i := range number {
		fmt.Fprintf(&b, "call %s %d;", path, i+1)
	}
	return b.String()
}

// TestMostCalls has as many calls in each other as there can be, and one more, which fails before its path is looked at.
func TestMostCalls(t *testing.T) { // P19.2, P19.4, P19.5
	for _, c := range []struct {
		path   string
		frames int
		fails  api.Errno // the call that is one too many, where it is the first one
		pulls  string
	}{
		{"", 0, api.OK, ""},
		{".", 0, api.OK, ""},
		{"x", 0, api.ErrMissing, "x"},
		{"bad", 0, api.ErrProvider, "bad"},
		{"n.x", 0, api.ErrType, "n"},
		{"m", 0, api.OK, "m"},
	} {
		for number := range api.MaxDepth + 1 {
			p := provided(sample(), "bad")
			m := machineFor(t, assemble(calls(number, "")+fmt.Sprintf("call %s 0;halt", c.path)), p)
			for range number {
				m.Step()
			}
			if m.Status() != machine.Running || m.Frames() != number || m.Steps() != number || m.Index() != number {
				t.Fatal(number, m.Status(), m.Frames(), m.Steps(), m.Index())
			}
			err, want, pulls := m.Step(), c.fails, c.pulls
			if number == api.MaxDepth {
				want, pulls = api.ErrDepth, ""
			}
			if err != want || m.Err() != want || m.Steps() != number+1 || strings.Join(p.Pulls(), " ") != pulls {
				t.Errorf("%d calls, then %s: %v, %d steps, pulls %v", number, c.path, err, m.Steps(), p.Pulls())
			}
			if want != api.OK && (m.Index() != number || m.Frames() != number) || want == api.OK && (m.Index() != 0 || m.Frames() != number+1) {
				t.Errorf("%d calls, then %s: index %d, %d frames", number, c.path, m.Index(), m.Frames())
			}
		}
	}
}

// TestCallsBehindReturns has calls at the greatest depth again and again, behind returns.
func TestCallsBehindReturns(t *testing.T) { // P19.2, P19.4
	const most = api.MaxDepth
	// Behind most-1 calls in each other, the last definition calls the return three times, and then fails in a call.
	listing := calls(most-1, ".") + strings.Repeat(fmt.Sprintf("call %d;", most+3), 3) + fmt.Sprintf("call %d;ret;call 0;halt", most+4)
	m := machineFor(t, assemble(listing), provided(nil))
	var seen []string
	for m.Status() == machine.Running {
		seen = append(seen, stepped(t, m))
	}
	want := "19/16/16; 16/15/16; 19/16/17; 17/15/17; 19/16/18; 18/15/18; 20/16/19; 20/16/20 error 19"
	if got := strings.Join(seen[most-1:], "; "); got != want {
		t.Errorf("%s, want %s", got, want)
	}
}

// TestLoopsAreNoCalls has loops between calls, so that there are more frames than calls can be in each other.
func TestLoopsAreNoCalls(t *testing.T) { // P19.2, P19.4
	const most = api.MaxDepth
	var nested any = "x"
	for range api.MaxNest - 2 { // the value of a field of the data is at depth 2
		nested = list{nested}
	}
	listing := "range l 1;"
	for i := range api.MaxNest - 3 {
		listing += fmt.Sprintf("range . %d;", i+2)
	}
	listing += "print .;halt"
	m := machineFor(t, assemble(listing), provided(object{"l": nested}))
	for range api.MaxNest - 2 {
		m.Step()
	}
	if m.Frames() != api.MaxNest-2 {
		t.Error(m.Frames())
	}
	outputs(t, m, "x")

	// Now a call behind each loop.
	listing = "range l 1;call 2;"
	for i := range most + 1 {
		listing += fmt.Sprintf("range . %d;call . %d;", 2*i+3, 2*i+4)
	}
	listing += "halt"
	m = machineFor(t, assemble(listing), provided(object{"l": nested}))
	for m.Status() == machine.Running {
		m.Step()
	}
	if m.Err() != api.ErrDepth || m.Frames() != 2*most+1 || m.Index() != 2*most+1 || m.Steps() != 2*most+2 {
		t.Error(m.Err(), m.Frames(), m.Index(), m.Steps())
	}
}

// TestAgainAndAgain has code that goes back by OpNext and by OpCall until a limit stops it.
func TestAgainAndAgain(t *testing.T) { // P19.5
	twice := ""
	for i := range api.MaxDepth { // each definition calls the next one, and is run into from the one before it
		twice += fmt.Sprintf("call %d;", i+1)
	}
	deep := any(list{})
	for range 6 {
		deep = list{deep, deep, deep}
	}
	for _, c := range []struct {
		name, listing string
		steps         int
		err           api.Errno
	}{
		{"calls of itself", "call 0;halt", api.MaxDepth + 1, api.ErrDepth},
		{"calls of itself with a path", "call . 0;ret", api.MaxDepth + 1, api.ErrDepth},
		{"calls of each other", "call 2;halt;flush;call 0;halt", 3*api.MaxDepth/2 + 1, api.ErrDepth},
		{"calls, twice each", twice + "flush;ret", api.MaxSteps, api.ErrLimit},
		{"calls, twice each, with jumps", twice + fmt.Sprintf("jump %d;text ;ret", api.MaxDepth+1), api.MaxSteps, api.ErrLimit},
		{"a long loop", "range many 2;next 1;halt", api.MaxSteps, api.ErrLimit},
		{"a long loop with a call", "range many 3;call 4;next 1;halt;jump 5;jump 6;ret", api.MaxSteps, api.ErrLimit},
		{"loops in loops", "range deep 12;range . 11;range . 10;range . 9;range . 8;range . 7;next 6;next 5;next 4;next 3;next 2;next 1;halt", 4 * 364, api.OK},
		{"a next to itself", "range many 1;next 1;ret", api.MaxSteps, api.ErrLimit},
	} {
		data := object{"deep": deep, "many": many(3 * api.MaxSteps)}
		m := machineFor(t, assemble(c.listing), provided(data))
		instructions := 0
		for m.Status() == machine.Running {
			m.Step()
			m.Take(m.Ready())
			m.Resume()
			if instructions++; instructions > 10*api.MaxSteps {
				t.Fatal(c.name)
			}
		}
		if m.Err() != c.err || m.Steps() != c.steps {
			t.Errorf("%s: %v, %d steps", c.name, m.Err(), m.Steps())
		}
	}
}
