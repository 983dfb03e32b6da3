package machine_test

import (
	"math"
	"slices"
	"strconv"
	"strings"
	"testing"

	"tmplpipe/api"
	"tmplpipe/compile"
	"tmplpipe/machine"
	"tmplpipe/provider"
	"tmplpipe/value"
)

// object is a map as a Go value, and list is a list.
type (
	object = map[string]any
	list   = []any
)

// of returns the value of a Go value.
func of(x any) api.Value {
	v, err := value.From(x)
	if err != api.OK {
		panic(err)
	}
	return v
}

// provided returns a new provider with the fields of data, which fails for some names.
func provided(data object, failing ...string) *provider.Provider {
	p, err := provider.New(of(data).Fields, failing)
	if err != api.OK {
		panic(err)
	}
	return p
}

// sample is the data of most tests; there, the provider fails for the name bad.
func sample() object {
	return object{
		"s": "<x>", "e": "", "n": -5, "yes": true, "no": false,
		"l": list{"a", "b", "c"}, "none": list{}, "one": list{"&"}, "ll": list{list{"1", "2"}, list{}, list{"3"}},
		"m":  object{"s": "m&", "n": 7, "yes": true, "no": false, "l": list{1, 2}, "none": list{}, "m": object{"s": "mm", "no": false}},
		"lm": list{object{"s": "p", "yes": true, "l": list{"r"}}, object{"s": "q", "yes": false, "l": list{}}},
		"lb": list{true, false, true},
	}
}

// assemble returns the code of a listing, in which a semicolon is between instructions. A period is the empty path, a print
// is for text, and print/1 to print/4 are for the other escapers.
func assemble(listing string) []api.Ins {
	var code []api.Ins
	for _, line := range strings.Split(listing, ";") {
		line = strings.TrimLeft(line, " ")
		if text, ok := strings.CutPrefix(line, "text "); ok {
			code = append(code, api.Ins{Op: api.OpText, S: text})
			continue
		}
		words := strings.Fields(line)
		name, escaper, _ := strings.Cut(words[0], "/")
		ins := api.Ins{Op: slices.Index([]string{"text", "print", "if", "jump", "range", "next", "call", "ret", "flush", "halt"}, name)}
		if ins.Op < 0 {
			panic(line)
		}
		ins.Esc, _ = strconv.Atoi(escaper)
		for _, word := range words[1:] {
			if to, err := strconv.Atoi(word); err == nil {
				ins.To = to
			} else {
				ins.Path, ins.HasPath = strings.TrimPrefix(word, "."), ins.Op == api.OpCall
			}
		}
		code = append(code, ins)
	}
	return code
}

// machineFor returns a new machine for code that is valid.
func machineFor(t *testing.T, code []api.Ins, p *provider.Provider) *machine.Machine {
	t.Helper()
	m, err := machine.New(code, p)
	if m == nil || err != api.OK {
		t.Fatalf("New(%v) = %v, %v", code, m, err)
	}
	return m
}

// isNew checks that a machine is in its initial state.
func isNew(t *testing.T, m *machine.Machine) {
	t.Helper()
	if m.Status() != machine.Running || m.Err() != api.OK || m.Steps() != 0 || m.Index() != 0 || m.Frames() != 0 || m.Ready() != 0 {
		t.Errorf("status %d, error %v, %d steps, index %d, %d frames, %d bytes", m.Status(), m.Err(), m.Steps(), m.Index(), m.Frames(), m.Ready())
	}
	if err := m.Resume(); err != api.ErrState {
		t.Error("Resume =", err)
	}
	if b := m.Take(1); len(b) > 0 {
		t.Errorf("Take = %q", b)
	}
}

// TestNew has valid code.
func TestNew(t *testing.T) { // P19.1
	for _, listing := range []string{
		"halt", "ret", "text a;halt", "halt;print s;ret", "next 0;ret", "call 0;halt", "jump 1;halt", "if x 1;range y 2;halt",
		"print/4 m.m.s;call . 0;call m.x 2;flush;halt",
	} {
		p := provided(sample())
		isNew(t, machineFor(t, assemble(listing), p))
		if len(p.Pulls()) > 0 {
			t.Error(listing, p.Pulls())
		}
	}
}

// faulty are code that compile.Check refuses, and its errors.
func faulty() map[string]struct {
	code []api.Ins
	err  api.Errno
} {
	type faulty = struct {
		code []api.Ins
		err  api.Errno
	}
	halt := api.Ins{Op: api.OpHalt}
	codes := map[string]faulty{
		"no code":            {nil, api.ErrTruncated},
		"empty code":         {[]api.Ins{}, api.ErrTruncated},
		"no end":             {assemble("halt;flush"), api.ErrTruncated},
		"text at the end":    {assemble("text a"), api.ErrTruncated},
		"too long":           {slices.Repeat([]api.Ins{halt}, 65537), api.ErrLimit},
		"too long, no end":   {make([]api.Ins, 65537), api.ErrLimit},
		"too long, unknown":  {slices.Repeat([]api.Ins{{Op: 10}}, 65537), api.ErrLimit},
		"no opcode":          {[]api.Ins{{Op: -1}, halt}, api.ErrSyntax},
		"no opcode 10":       {[]api.Ins{{Op: 10}}, api.ErrSyntax},
		"least opcode":       {[]api.Ins{halt, {Op: math.MinInt}, halt}, api.ErrSyntax},
		"greatest opcode":    {[]api.Ins{halt, {Op: math.MaxInt}, halt}, api.ErrSyntax},
		"text of a print":    {[]api.Ins{{Op: api.OpPrint, S: "a"}, halt}, api.ErrSyntax},
		"path of a flush":    {[]api.Ins{{Op: api.OpFlush, Path: "a"}, halt}, api.ErrSyntax},
		"HasPath of an if":   {[]api.Ins{{Op: api.OpIf, HasPath: true, To: 1}, halt}, api.ErrSyntax},
		"escaper of a text":  {[]api.Ins{{Op: api.OpText, Esc: 1}, halt}, api.ErrSyntax},
		"target of a halt":   {[]api.Ins{{Op: api.OpHalt, To: 1}, halt}, api.ErrSyntax},
		"no path of a call":  {[]api.Ins{{Op: api.OpCall, Path: "a"}, halt}, api.ErrSyntax},
		"no path":            {assemble("print a..b;halt"), api.ErrName},
		"no name":            {assemble("halt;call 0a 0;halt"), api.ErrName},
		"long path":          {assemble("if a.b.c.d.e.f.g.h.i 1;halt"), api.ErrName},
		"no escaper":         {[]api.Ins{{Op: api.OpPrint, Esc: api.Escs}, halt}, api.ErrArg},
		"negative escaper":   {[]api.Ins{{Op: api.OpPrint, Esc: -1}, halt}, api.ErrArg},
		"to no instruction":  {assemble("jump 2;halt"), api.ErrRange},
		"to a negative one":  {assemble("call -1;halt"), api.ErrRange},
		"if to itself":       {assemble("if a 0;halt"), api.ErrRange},
		"jump back":          {assemble("halt;jump 0;halt"), api.ErrRange},
		"range to itself":    {assemble("halt;range a 1;halt"), api.ErrRange},
		"next forward":       {assemble("next 1;halt"), api.ErrRange},
		"call of the end":    {assemble("call 2;halt"), api.ErrRange},
		"name before range":  {assemble("if . 5;print x.;jump 0;halt"), api.ErrRange},
		"range before name":  {assemble("print x.;jump 0;text a"), api.ErrName},
		"range, then no end": {assemble("next 1;text a"), api.ErrRange},
	}
	return codes
}

// TestNewChecksTheCode has code that is not valid, whose error comes before that of the nil provider.
func TestNewChecksTheCode(t *testing.T) { // P19.1
	for name, f := range faulty() {
		for _, p := range []*provider.Provider{nil, provided(sample())} {
			m, err := machine.New(f.code, p)
			if m != nil || err != f.err {
				t.Errorf("%s: %v, %v, want %v", name, m, err, f.err)
			}
		}
		if _, err := compile.Check(f.code); err != f.err {
			t.Error(name, err)
		}
	}
}

func TestNewWithoutProvider(t *testing.T) { // P19.1
	for _, listing := range []string{"halt", "ret", "text a;halt", "print s;halt"} {
		if m, err := machine.New(assemble(listing), nil); m != nil || err != api.ErrNil {
			t.Errorf("%q: %v, %v", listing, m, err)
		}
	}
}

// TestLongestCode has as many instructions as there can be.
func TestLongestCode(t *testing.T) { // P19.1, P19.4
	code := slices.Repeat([]api.Ins{{Op: api.OpHalt}}, 65536)
	code[0] = api.Ins{Op: api.OpCall, To: 65535}
	code[65535] = api.Ins{Op: api.OpRet}
	runs(t, code, nil, "65535/1/1; 1/0/1; 1/0/1 halted", "")
	code[0] = api.Ins{Op: api.OpJump, To: 65535}
	runs(t, code, nil, "65535/0/0; 65535/0/0 error 4", "")
}

// TestCodeIsCopied changes code after the call, up to its capacity, and has code before whose end there is more.
func TestCodeIsCopied(t *testing.T) { // P19.1, rule 4
	const listing = "range l 4;print .;text -;next 1;call 6;halt;text f;ret"
	const want = `1/1/1; 2/1/2 "a"; 3/1/3 "-"; 1/1/4; 2/1/5 "b"; 3/1/6 "-"; 1/1/7; 2/1/8 "c"; 3/1/9 "-"; 4/0/10; 6/1/11; 7/1/12 "f"; 5/0/12; 5/0/12 halted`
	for from := range 14 { // the step at which the code is changed
		code := slices.Concat(assemble(listing), assemble("text behind;halt"))[:8]
		before := slices.Clone(code[:cap(code)])
		m := machineFor(t, code, provided(sample()))
		var seen []string
		for i := range 14 {
			if i == from {
				for j := range code[:cap(code)] {
					code[:cap(code)][j] = api.Ins{Op: j - 3, S: "changed", Path: "e..", HasPath: true, Esc: 9, To: -j}
				}
			}
			seen = append(seen, stepped(t, m))
		}
		if got := strings.Join(seen, "; "); got != want {
			t.Errorf("%d: %s", from, got)
		}
		copy(code[:cap(code)], before)
		runs(t, code, sample(), want, "l")
		if !slices.Equal(code[:cap(code)], before) {
			t.Error("the code was changed")
		}
	}
	code := slices.Concat(assemble("flush;text a"), assemble("halt"))[:2]
	if m, err := machine.New(code, provided(nil)); m != nil || err != api.ErrTruncated { // the halt is behind the end
		t.Error(m, err)
	}
}
