package machine_test

import (
	"strings"
	"testing"

	"tmplpipe/api"

	"tmplpipe/machine"
)

// many returns a list of that many items.
func many(items int) list {
	l := make(list, items)
	for i := range l {
		l[i] = true
	}
	return l
}

// stepsBefore lets a machine make a number of steps, and discards the output.
func stepsBefore(t *testing.T, m *machine.Machine, steps int) {
	t.Helper()
	for m.Steps() < steps {
		if err := m.Step(); err != api.OK {
			t.Fatalf("%v after %d steps", err, m.Steps())
		}
		m.Take(m.Ready())
		m.Resume()
	}
}

// runsFrom checks what is the case after each step behind a number of steps, and what is pulled in all. The provider has the
// sample and a list, many.
func runsFrom(t *testing.T, listing string, items, steps int, trace, pulls string) {
	t.Helper()
	data := sample()
	data["many"] = many(items)
	p := provided(data, "bad")
	m := machineFor(t, assemble(listing), p)
	stepsBefore(t, m, steps)
	if got := traced(t, m); got != trace {
		t.Errorf("%s with %d items\n\t     %s\n\twant %s", listing, items, got, trace)
	}
	if all := strings.Join(p.Pulls(), " "); all != pulls {
		t.Errorf("%s with %d items pulls %q, want %q", listing, items, all, pulls)
	}
}

// TestMostSteps has each opcode as the last one that can be executed, and as the first one beyond. Those that are no steps go
// on there. A loop makes all the steps before: one, and one for each item.
func TestMostSteps(t *testing.T) { // P19.2, P19.4, P19.5
	const beyond = "2/0/20000 error 14"
	for _, c := range []struct{ behind, last, beyond, pulls string }{
		{"text a;halt", `3/0/20000 "a"; 3/0/20000 halted`, beyond, ""},
		{"text ;halt", `3/0/20000; 3/0/20000 halted`, beyond, ""},
		{"print n;halt", `3/0/20000 "-5"; 3/0/20000 halted`, beyond, " n"},
		{"print x;halt", `2/0/20000 error 17`, beyond, " x"},
		{"print yes;halt", `2/0/20000 error 18`, beyond, " yes"},
		{"if yes 4;halt;halt", `3/0/20000; 3/0/20000 halted`, beyond, " yes"},
		{"if no 4;halt;halt", `4/0/20000; 4/0/20000 halted`, beyond, " no"},
		{"if n 4;halt;halt", `2/0/20000 error 18`, beyond, " n"},
		{"range none 4;halt;halt", `4/0/20000; 4/0/20000 halted`, beyond, " none"},
		{"range one 4;halt;halt", `3/1/20000; 3/1/20000 halted`, beyond, " one"},
		{"range bad 4;halt;halt", `2/0/20000 error 20`, beyond, " bad"},
		{"range n 4;halt;halt", `2/0/20000 error 18`, beyond, " n"},
		{"next 0;halt", `2/0/20000 error 4`, beyond, ""},
		{"call 4;halt;ret", `4/1/20000; 3/0/20000; 3/0/20000 halted`, beyond, ""},
		{"call m 4;halt;ret", `4/1/20000; 3/0/20000; 3/0/20000 halted`, beyond, " m"},
		{"call x 4;halt;ret", `2/0/20000 error 17`, beyond, " x"},
		{"flush;halt", `3/0/20000 flushing; 3/0/20000 halted`, beyond, ""},
		{"jump 4;halt;jump 5;text a;halt", `4/0/19999; 5/0/19999; 6/0/20000 "a"; 6/0/20000 halted`, "4/0/20000; 5/0/20000; 5/0/20000 error 14", ""},
		{"jump 4;halt;halt", `4/0/19999; 4/0/19999 halted`, `4/0/20000; 4/0/20000 halted`, ""},
		{"halt", `2/0/19999 halted`, `2/0/20000 halted`, ""},
		{"ret", `2/0/19999 error 4`, `2/0/20000 error 4`, ""},
	} {
		listing := "range many 2;next 1;" + c.behind
		runsFrom(t, listing, api.MaxSteps-2, api.MaxSteps-1, c.last, "many"+c.pulls)
		runsFrom(t, listing, api.MaxSteps-1, api.MaxSteps, c.beyond, "many")
	}
}

// TestMostStepsInFrames has the last step in a loop, in a call, and at their ends.
func TestMostStepsInFrames(t *testing.T) { // P19.2, P19.4, P19.5
	for _, c := range []struct {
		listing      string
		items, steps int
		trace        string
	}{
		{"range many 2;next 1;halt", 19998, 19998, "2/0/19999; 2/0/19999 halted"},
		{"range many 2;next 1;halt", 19999, 19999, "2/0/20000; 2/0/20000 halted"},
		{"range many 2;next 1;halt", 20000, 19999, "1/1/20000; 1/1/20000 error 14"},
		{"range many 2;next 1;halt", 20001, 19998, "1/1/19999; 1/1/20000; 1/1/20000 error 14"},
		{"range many 3;text x;next 1;halt", 9999, 19998, `3/0/19999; 3/0/19999 halted`},
		{"range many 3;text x;next 1;halt", 10000, 19999, `2/1/20000 "x"; 2/1/20000 error 14`},
		{"call 2;halt;range many 4;next 3;ret", 19998, 19999, "4/1/20000; 1/0/20000; 1/0/20000 halted"},
		{"call 2;halt;range many 4;next 3;ret", 19999, 19999, "3/2/20000; 3/2/20000 error 14"},
		{"call 2;text a;range many 4;next 3;jump 5;ret", 19998, 19999, "4/1/20000; 5/1/20000; 1/0/20000; 1/0/20000 error 14"},
		{"range many 4;if . 3;jump 3;next 1;halt", 9999, 19998, "3/1/19998; 4/0/19999; 4/0/19999 halted"},
		{"range many 4;if . 3;jump 3;next 1;halt", 10000, 19999, "2/1/20000; 3/1/20000; 3/1/20000 error 14"},
		{"range many 4;call 5;flush;next 1;halt;ret", 6667, 19999, "5/2/20000; 2/1/20000; 2/1/20000 error 14"},
		{"range many 4;call 5;flush;next 1;halt;ret", 6666, 19998, "4/0/19999; 4/0/19999 halted"},
	} {
		runsFrom(t, c.listing, c.items, c.steps, c.trace, "many")
	}
}
