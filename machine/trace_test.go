package machine_test

import (
	"fmt"
	"strings"
	"testing"

	"tmplpipe/api"
	"tmplpipe/machine"
)

// stepped lets a machine make one step, and returns what is the case then: the index, the number of frames and the number
// of steps, a status other than Running, or the error, and the output, which it takes. A machine that is flushing resumes.
func stepped(t *testing.T, m *machine.Machine) string {
	t.Helper()
	err := m.Step()
	s := fmt.Sprintf("%d/%d/%d", m.Index(), m.Frames(), m.Steps())
	if m.Err() != err || (err == api.OK) != (m.Status() != machine.Failed) {
		t.Errorf("Step = %v, but then %s has the error %v and the status %d", err, s, m.Err(), m.Status())
	}
	if n := m.Ready(); n > 0 {
		s += fmt.Sprintf(" %q", m.Take(n))
	}
	switch m.Status() {
	case machine.Flushing:
		s += " flushing"
		if err := m.Resume(); err != api.OK || m.Status() != machine.Running {
			t.Errorf("Resume = %v, then the status is %d", err, m.Status())
		}
	case machine.Halted:
		s += " halted"
	case machine.Failed:
		s += " " + err.Error()
	}
	return s
}

// traced returns what is the case after each step of a machine, up to its end.
func traced(t *testing.T, m *machine.Machine) string {
	t.Helper()
	var seen []string
	for m.Status() == machine.Running && len(seen) < 100 {
		seen = append(seen, stepped(t, m))
	}
	return strings.Join(seen, "; ")
}

// runs checks what is the case after each step of a machine for code, and what it pulls. The provider fails for the name bad.
func runs(t *testing.T, code []api.Ins, data object, trace, pulls string) {
	t.Helper()
	p := provided(data, "bad")
	if got := traced(t, machineFor(t, code, p)); got != trace {
		t.Errorf("%v\n\t     %s\n\twant %s", code[:min(20, len(code))], got, trace)
	}
	if all := strings.Join(p.Pulls(), " "); all != pulls {
		t.Errorf("%v pulls %q, want %q", code[:min(20, len(code))], all, pulls)
	}
}

// row is the listing of code, and what is the case after each step with the sample.
type row struct{ listing, trace, pulls string }

func run(t *testing.T, rows []row) {
	t.Helper()
	for _, r := range rows {
		runs(t, assemble(r.listing), sample(), r.trace, r.pulls)
	}
}

func TestExample(t *testing.T) { // P19.2, P19.3, P19.4
	run(t, []row{{"text a;flush;text b;halt", `1/0/1 "a"; 2/0/2 flushing; 3/0/3 "b"; 3/0/3 halted`, ""}})
}

func TestText(t *testing.T) { // P19.2, P19.4
	run(t, []row{
		{"text a;halt", `1/0/1 "a"; 1/0/1 halted`, ""},
		{"text ;halt", `1/0/1; 1/0/1 halted`, ""},
		{"text ;text ;text <&>\x00\xff;halt", `1/0/1; 2/0/2; 3/0/3 "<&>\x00\xff"; 3/0/3 halted`, ""},
		{"range one 3;text a{{.b}};next 1;halt", `1/1/1; 2/1/2 "a{{.b}}"; 3/0/3; 3/0/3 halted`, "one"},
		{"call m 2;halt;text ;text ab;ret", `2/1/1; 3/1/2; 4/1/3 "ab"; 1/0/3; 1/0/3 halted`, "m"},
	})
}

func TestPrint(t *testing.T) { // P19.2, P19.4
	run(t, []row{
		{"print s;halt", `1/0/1 "&lt;x&gt;"; 1/0/1 halted`, "s"},
		{"print e;halt", `1/0/1; 1/0/1 halted`, "e"},
		{"print n;halt", `1/0/1 "-5"; 1/0/1 halted`, "n"},
		{"print m.m.s;print m.n;halt", `1/0/1 "mm"; 2/0/2 "7"; 2/0/2 halted`, "m"},
		{"print/1 s;print/2 s;print/3 s;print/4 s;halt", `1/0/1 "&lt;x&gt;"; 2/0/2 "%3Cx%3E"; 3/0/3 "\\u003cx\\u003e"; 4/0/4 "\\3c x\\3e "; 4/0/4 halted`, "s"},
		{"print .;halt", `0/0/1 error 18`, ""},
		{"print yes;halt", `0/0/1 error 18`, "yes"},
		{"print l;halt", `0/0/1 error 18`, "l"},
		{"print m;halt", `0/0/1 error 18`, "m"},
		{"print x;halt", `0/0/1 error 17`, "x"},
		{"print x.y;halt", `0/0/1 error 17`, "x"},
		{"print bad;halt", `0/0/1 error 20`, "bad"},
		{"print m.x;halt", `0/0/1 error 17`, "m"},
		{"print m.s.x;halt", `0/0/1 error 18`, "m"},
		{"text a;print n;print x;halt", `1/0/1 "a"; 2/0/2 "-5"; 2/0/3 error 17`, "n x"},
		{"range one 4;print .;print/2 .;next 1;halt", `1/1/1; 2/1/2 "&amp;"; 3/1/3 "%26"; 4/0/4; 4/0/4 halted`, "one"},
		{"range one 3;print .;next 1;halt", `1/1/1; 2/1/2 "&amp;"; 3/0/3; 3/0/3 halted`, "one"},
		{"range lm 3;print s;next 1;halt", `1/1/1; 2/1/2 "p"; 1/1/3; 2/1/4 "q"; 3/0/5; 3/0/5 halted`, "lm"},
		{"range lm 3;print .;next 1;halt", `1/1/1; 1/1/2 error 18`, "lm"},
		{"range lm 3;print n;next 1;halt", `1/1/1; 1/1/2 error 17`, "lm"},
		{"range l 3;print s;next 1;halt", `1/1/1; 1/1/2 error 18`, "l"},
		{"call m 2;halt;print s;print bad;ret", `2/1/1; 3/1/2 "m&amp;"; 3/1/3 error 17`, "m"},
	})
}

func TestIf(t *testing.T) { // P19.2, P19.4
	run(t, []row{
		{"if yes 2;halt;halt", `1/0/1; 1/0/1 halted`, "yes"},
		{"if no 2;halt;halt", `2/0/1; 2/0/1 halted`, "no"},
		{"if m.yes 1;if m.no 3;text a;halt", `1/0/1; 3/0/2; 3/0/2 halted`, "m"},
		{"if yes 3;text a;jump 4;text b;text c;halt", `1/0/1; 2/0/2 "a"; 4/0/2; 5/0/3 "c"; 5/0/3 halted`, "yes"},
		{"if no 3;text a;jump 4;text b;text c;halt", `3/0/1; 4/0/2 "b"; 5/0/3 "c"; 5/0/3 halted`, "no"},
		{"text a;if no 3;text b;text c;if yes 6;halt;ret", `1/0/1 "a"; 3/0/2; 4/0/3 "c"; 5/0/4; 5/0/4 halted`, "no yes"},
		{"if s 1;halt", `0/0/1 error 18`, "s"},
		{"if e 1;halt", `0/0/1 error 18`, "e"},
		{"if n 1;halt", `0/0/1 error 18`, "n"},
		{"if l 1;halt", `0/0/1 error 18`, "l"},
		{"if none 1;halt", `0/0/1 error 18`, "none"},
		{"if m 1;halt", `0/0/1 error 18`, "m"},
		{"if . 1;halt", `0/0/1 error 18`, ""},
		{"if x 1;halt", `0/0/1 error 17`, "x"},
		{"if bad 1;halt", `0/0/1 error 20`, "bad"},
		{"if m.x 1;halt", `0/0/1 error 17`, "m"},
		{"if yes.x 1;halt", `0/0/1 error 18`, "yes"},
		{"range lb 3;if . 2;next 1;halt", `1/1/1; 2/1/2; 1/1/3; 2/1/4; 1/1/5; 2/1/6; 3/0/7; 3/0/7 halted`, "lb"},
		{"range lb 4;if . 3;text y;next 1;if yes 5;halt", `1/1/1; 2/1/2; 3/1/3 "y"; 1/1/4; 3/1/5; 1/1/6; 2/1/7; 3/1/8 "y"; 4/0/9; 5/0/10; 5/0/10 halted`, "lb yes"},
		{"range lm 4;if yes 3;print s;next 1;halt", `1/1/1; 2/1/2; 3/1/3 "p"; 1/1/4; 3/1/5; 4/0/6; 4/0/6 halted`, "lm"},
		{"call m 2;halt;if no 4;ret;if x 5;ret", `2/1/1; 4/1/2; 4/1/3 error 17`, "m"},
		{"call m 2;halt;if . 3;ret", `2/1/1; 2/1/2 error 18`, "m"},
	})
}

func TestJump(t *testing.T) { // P19.2, P19.4
	run(t, []row{
		{"jump 1;halt", `1/0/0; 1/0/0 halted`, ""},
		{"jump 3;text a;halt;jump 5;text b;ret", `3/0/0; 5/0/0; 5/0/0 error 4`, ""},
		{"text a;jump 3;text b;text c;halt", `1/0/1 "a"; 3/0/1; 4/0/2 "c"; 4/0/2 halted`, ""},
		{"range lb 4;jump 3;text a;next 1;halt", `1/1/1; 3/1/1; 1/1/2; 3/1/2; 1/1/3; 3/1/3; 4/0/4; 4/0/4 halted`, "lb"},
		{"call m 2;halt;jump 4;ret;print s;ret", `2/1/1; 4/1/1; 5/1/2 "m&amp;"; 1/0/2; 1/0/2 halted`, "m"},
	})
}

func TestRange(t *testing.T) { // P19.2, P19.4
	run(t, []row{
		{"range none 2;next 1;halt", `2/0/1; 2/0/1 halted`, "none"},
		{"range none 3;text a;next 1;print n;halt", `3/0/1; 4/0/2 "-5"; 4/0/2 halted`, "none n"},
		{"range m.none 1;halt", `1/0/1; 1/0/1 halted`, "m"},
		{"range one 2;next 1;halt", `1/1/1; 2/0/2; 2/0/2 halted`, "one"},
		{"range one 1;halt", `1/1/1; 1/1/1 halted`, "one"},
		{"range one 2;halt;text a;halt", `1/1/1; 1/1/1 halted`, "one"},
		{"range l 2;next 1;halt", `1/1/1; 1/1/2; 1/1/3; 2/0/4; 2/0/4 halted`, "l"},
		{"range l 4;print .;text ,;next 1;print n;halt", `1/1/1; 2/1/2 "a"; 3/1/3 ","; 1/1/4; 2/1/5 "b"; 3/1/6 ","; 1/1/7; 2/1/8 "c"; 3/1/9 ","; 4/0/10; 5/0/11 "-5"; 5/0/11 halted`, "l n"},
		{"range ll 4;range . 4;print .;next 2;next 1;halt", `1/1/1; 2/2/2; 3/2/3 "1"; 2/2/4; 3/2/5 "2"; 4/1/6; 1/1/7; 4/1/8; 1/1/9; 2/2/10; 3/2/11 "3"; 4/1/12; 5/0/13; 5/0/13 halted`, "ll"},
		{"range lm 5;range l 4;print .;next 2;next 1;halt", `1/1/1; 2/2/2; 3/2/3 "r"; 4/1/4; 1/1/5; 4/1/6; 5/0/7; 5/0/7 halted`, "lm"},
		{"range lm 5;range l 4;print .;next 2;print s;next 1;halt", `1/1/1; 2/2/2; 3/2/3 "r"; 4/1/4; 5/1/5 "p"; 1/1/6; 4/1/7; 5/1/8 "q"; 6/0/9; 6/0/9 halted`, "lm"},
		{"range . 1;halt", `0/0/1 error 18`, ""},
		{"range s 1;halt", `0/0/1 error 18`, "s"},
		{"range n 1;halt", `0/0/1 error 18`, "n"},
		{"range yes 1;halt", `0/0/1 error 18`, "yes"},
		{"range m 1;halt", `0/0/1 error 18`, "m"},
		{"range x 1;halt", `0/0/1 error 17`, "x"},
		{"range bad 1;halt", `0/0/1 error 20`, "bad"},
		{"range m.x 1;halt", `0/0/1 error 17`, "m"},
		{"range none.x 1;halt", `0/0/1 error 18`, "none"},
		{"range l 4;print .;range . 4;next 3;next 1;halt", `1/1/1; 2/1/2 "a"; 2/1/3 error 18`, "l"},
		{"range lm 4;range n 3;next 2;next 1;halt", `1/1/1; 1/1/2 error 17`, "lm"},
		{"call m 2;halt;range l 5;print .;next 3;print n;ret", `2/1/1; 3/2/2; 4/2/3 "1"; 3/2/4; 4/2/5 "2"; 5/1/6; 6/1/7 "7"; 1/0/7; 1/0/7 halted`, "m"},
		{"call l 2;print n;range . 5;print .;next 3;ret", `2/1/1; 3/2/2; 4/2/3 "a"; 3/2/4; 4/2/5 "b"; 3/2/6; 4/2/7 "c"; 5/1/8; 1/0/8; 2/0/9 "-5"; 2/0/10 error 18`, "l n"},
	})
}

// TestNext has its failures; TestRange has the others.
func TestNext(t *testing.T) { // P19.2, P19.4
	run(t, []row{
		{"next 0;halt", `0/0/1 error 4`, ""},
		{"text a;next 1;halt", `1/0/1 "a"; 1/0/2 error 4`, ""},
		{"range none 1;next 1;halt", `1/0/1; 1/0/2 error 4`, "none"},
		{"range one 2;next 1;next 1;halt", `1/1/1; 2/0/2; 2/0/3 error 4`, "one"},
		{"call . 1;next 1;halt", `1/1/1; 1/1/2 error 4`, ""},
		{"call m 2;halt;print s;next 0;ret", `2/1/1; 3/1/2 "m&amp;"; 3/1/3 error 4`, "m"},
		{"range one 2;call 2;next 1;halt", `1/1/1; 2/2/2; 2/2/3 error 4`, "one"},
		{"call m 2;halt;range l 4;next 3;next 3;ret", `2/1/1; 3/2/2; 3/2/3; 4/1/4; 4/1/5 error 4`, "m"},
	})
}

func TestCall(t *testing.T) { // P19.2, P19.4
	run(t, []row{
		{"call 2;halt;ret", `2/1/1; 1/0/1; 1/0/1 halted`, ""},
		{"call . 2;halt;ret", `2/1/1; 1/0/1; 1/0/1 halted`, ""},
		{"call m 2;halt;ret", `2/1/1; 1/0/1; 1/0/1 halted`, "m"},
		{"call 3;print n;halt;print s;ret", `3/1/1; 4/1/2 "&lt;x&gt;"; 1/0/2; 2/0/3 "-5"; 2/0/3 halted`, "s n"},
		{"call . 3;print n;halt;print s;ret", `3/1/1; 4/1/2 "&lt;x&gt;"; 1/0/2; 2/0/3 "-5"; 2/0/3 halted`, "s n"},
		{"call m 3;print n;halt;print s;ret", `3/1/1; 4/1/2 "m&amp;"; 1/0/2; 2/0/3 "-5"; 2/0/3 halted`, "m n"},
		{"call m.m 3;print n;halt;print s;ret", `3/1/1; 4/1/2 "mm"; 1/0/2; 2/0/3 "-5"; 2/0/3 halted`, "m n"},
		{"call s 2;halt;print .;ret", `2/1/1; 3/1/2 "&lt;x&gt;"; 1/0/2; 1/0/2 halted`, "s"},
		{"call n 2;halt;print .;ret", `2/1/1; 3/1/2 "-5"; 1/0/2; 1/0/2 halted`, "n"},
		{"call none 2;halt;print .;ret", `2/1/1; 2/1/2 error 18`, "none"},
		{"call no 2;halt;if . 4;ret;ret", `2/1/1; 4/1/2; 1/0/2; 1/0/2 halted`, "no"},
		{"call m 2;halt;call 6;call . 6;call m 6;ret;print s;ret", `2/1/1; 6/2/2; 7/2/3 "m&amp;"; 3/1/3; 6/2/4; 7/2/5 "m&amp;"; 4/1/5; 6/2/6; 7/2/7 "mm"; 5/1/7; 1/0/7; 1/0/7 halted`, "m"},
		{"range lm 3;call l 4;next 1;halt;range . 7;print .;next 5;ret", `1/1/1; 4/2/2; 5/3/3; 6/3/4 "r"; 7/2/5; 2/1/5; 1/1/6; 4/2/7; 7/2/8; 2/1/8; 3/0/9; 3/0/9 halted`, "lm"},
		{"range l 4;call . 5;call 5;next 1;halt;print .;ret", `1/1/1; 5/2/2; 6/2/3 "a"; 2/1/3; 5/2/4; 6/2/5 "a"; 3/1/5; 1/1/6; 5/2/7; 6/2/8 "b"; 2/1/8; 5/2/9; 6/2/10 "b"; 3/1/10; 1/1/11; 5/2/12; 6/2/13 "c"; 2/1/13; 5/2/14; 6/2/15 "c"; 3/1/15; 4/0/16; 4/0/16 halted`, "l"},
		{"jump 3;print s;ret;call m 1;call . 1;halt", `3/0/0; 1/1/1; 2/1/2 "m&amp;"; 4/0/2; 1/1/3; 2/1/4 "&lt;x&gt;"; 5/0/4; 5/0/4 halted`, "m s"},
		{"call x 0;halt", `0/0/1 error 17`, "x"},
		{"call bad 0;halt", `0/0/1 error 20`, "bad"},
		{"call m.x 0;halt", `0/0/1 error 17`, "m"},
		{"call m.s.x 0;halt", `0/0/1 error 18`, "m"},
		{"call l.x 0;halt", `0/0/1 error 18`, "l"},
		{"call 0;halt", `0/1/1; 0/2/2; 0/3/3; 0/4/4; 0/5/5; 0/6/6; 0/7/7; 0/8/8; 0/9/9; 0/10/10; 0/11/11; 0/12/12; 0/13/13; 0/14/14; 0/15/15; 0/16/16; 0/16/17 error 19`, ""},
		{"call m 0;halt", `0/1/1; 0/2/2; 0/2/3 error 17`, "m"},
		{"range one 2;call x 2;next 1;halt", `1/1/1; 1/1/2 error 18`, "one"},
		{"call m 2;halt;text a;call s.s 2;ret", `2/1/1; 3/1/2 "a"; 3/1/3 error 18`, "m"},
	})
}

// TestRet has its failures; TestCall has the others.
func TestRet(t *testing.T) { // P19.2, P19.4
	run(t, []row{
		{"ret", `0/0/0 error 4`, ""},
		{"text a;ret", `1/0/1 "a"; 1/0/1 error 4`, ""},
		{"range one 1;ret", `1/1/1; 1/1/1 error 4`, "one"},
		{"range none 1;ret", `1/0/1; 1/0/1 error 4`, "none"},
		{"call 1;ret", `1/1/1; 1/0/1; 1/0/1 error 4`, ""},
		{"call m 1;range l 2;print .;ret", `1/1/1; 2/2/2; 3/2/3 "1"; 3/2/3 error 4`, "m"},
		{"range one 2;call 2;ret", `1/1/1; 2/2/2; 2/1/2; 2/1/2 error 4`, "one"},
	})
}

func TestFlush(t *testing.T) { // P19.2, P19.3, P19.4
	run(t, []row{
		{"flush;halt", `1/0/1 flushing; 1/0/1 halted`, ""},
		{"flush;flush;text a;flush;ret", `1/0/1 flushing; 2/0/2 flushing; 3/0/3 "a"; 4/0/4 flushing; 4/0/4 error 4`, ""},
		{"range l 4;print .;flush;next 1;flush;halt", `1/1/1; 2/1/2 "a"; 3/1/3 flushing; 1/1/4; 2/1/5 "b"; 3/1/6 flushing; 1/1/7; 2/1/8 "c"; 3/1/9 flushing; 4/0/10; 5/0/11 flushing; 5/0/11 halted`, "l"},
		{"call m 3;print n;halt;flush;print s;ret", `3/1/1; 4/1/2 flushing; 5/1/3 "m&amp;"; 1/0/3; 2/0/4 "-5"; 2/0/4 halted`, "m n"},
	})
}

func TestHalt(t *testing.T) { // P19.2, P19.4
	run(t, []row{
		{"halt", `0/0/0 halted`, ""},
		{"halt;text a;halt", `0/0/0 halted`, ""},
		{"range l 1;range l 2;halt", `1/1/1; 1/1/2 error 18`, "l"},
		{"range ll 1;range . 2;halt", `1/1/1; 2/2/2; 2/2/2 halted`, "ll"},
		{"call 1;call 2;halt", `1/1/1; 2/2/2; 2/2/2 halted`, ""},
	})
}

// TestForeignCode has code that no template has: jumps into bodies, out of them and into definitions, loops and calls that end
// elsewhere, and definitions that are run into.
func TestForeignCode(t *testing.T) { // P19.2, P19.4
	run(t, []row{
		{"jump 2;range l 4;text a;next 2;halt", `2/0/0; 3/0/1 "a"; 3/0/2 error 4`, ""},                                                    // into a body
		{"range l 3;jump 3;next 1;print .;halt", `1/1/1; 3/1/1; 4/1/2 "a"; 4/1/2 halted`, "l"},                                            // out of a body
		{"range l 2;jump 2;print .;next 2;halt", `1/1/1; 2/1/1; 3/1/2 "a"; 2/1/3; 3/1/4 "b"; 2/1/5; 3/1/6 "c"; 4/0/7; 4/0/7 halted`, "l"}, // a next elsewhere
		{"range l 3;print .;next 1;next 1;halt", `1/1/1; 2/1/2 "a"; 1/1/3; 2/1/4 "b"; 1/1/5; 2/1/6 "c"; 3/0/7; 3/0/8 error 4`, "l"},
		{"range one 5;range ll 5;halt;next 3;halt;ret", `1/1/1; 1/1/2 error 18`, "one"},
		{"range ll 1;range . 2;next 2;next 1;halt", `1/1/1; 2/2/2; 2/2/3; 3/1/4; 1/1/5; 2/1/6; 2/1/7; 3/0/8; 3/0/9 error 4`, "ll"},
		{"text a;print s;ret", `1/0/1 "a"; 2/0/2 "&lt;x&gt;"; 2/0/2 error 4`, "s"},                       // into the end of a definition
		{"call 2;text a;text b;ret", `2/1/1; 3/1/2 "b"; 1/0/2; 2/0/3 "a"; 3/0/4 "b"; 3/0/4 error 4`, ""}, // a definition that is run into
		{"call 4;halt;text a;ret;jump 5;text b;ret", `4/1/1; 5/1/1; 6/1/2 "b"; 1/0/2; 1/0/2 halted`, ""},
		{"call m 3;print n;halt;range l 4;call 6;next 4;print .;next 6;ret", `3/1/1; 4/2/2; 6/3/3; 7/3/4 "1"; 7/3/5 error 4`, "m"}, // a next behind a call in the loop
		{"range l 3;call 1;halt;halt", `1/1/1; 1/2/2; 1/3/3; 1/4/4; 1/5/5; 1/6/6; 1/7/7; 1/8/8; 1/9/9; 1/10/10; 1/11/11; 1/12/12; 1/13/13; 1/14/14; 1/15/15; 1/16/16; 1/17/17; 1/17/18 error 19`, "l"},
		{"call 1;range one 2;next 2;ret", `1/1/1; 2/2/2; 3/1/3; 1/0/3; 2/1/4; 3/0/5; 3/0/5 error 4`, "one"},
		{"range l 2;next 0;halt", `1/1/1; 0/1/2; 0/1/3 error 18`, "l"}, // a next to the range
		{"range ll 3;flush;next 0;halt", `1/1/1; 2/1/2 flushing; 0/1/3; 0/1/4 error 18`, "ll"},
		{"call m 2;halt;range m.none 3;halt", `2/1/1; 2/1/2 error 17`, "m"},
		{"call m 2;halt;jump 4;ret;halt", `2/1/1; 4/1/1; 4/1/1 halted`, "m"}, // the end in a definition
		{"range l 2;halt;next 0;ret", `1/1/1; 1/1/1 halted`, "l"},
	})
}
