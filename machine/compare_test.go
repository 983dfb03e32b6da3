package machine_test

import (
	"fmt"
	"math"
	"slices"
	"strings"
	"testing"

	"tmplpipe/api"
	"tmplpipe/compile"
	"tmplpipe/escape"
	"tmplpipe/machine"
	"tmplpipe/provider"
)

// A description of the machine with Go values, whose frames are a linked list. It is copied before an instruction, so that
// one that fails changes nothing.

// held is a frame and those below it.
type held struct {
	below  *held
	isCall bool
	back   int
	items  list // from the current one on
	scope  any
}

// root is the scope of the beginning.
type root struct{}

// description is what is to be the case of a machine.
type description struct {
	code    []api.Ins
	data    object
	failing []string
	pulls   []string
	status  int
	err     api.Errno
	at      int
	scope   any
	top     *held
	steps   int
	total   int
	out     string
}

func (d *description) frames(ofCalls bool) int {
	n := 0
	for f := d.top; f != nil; f = f.below {
		if f.isCall || !ofCalls {
			n++
		}
	}
	return n
}

func (d *description) step() api.Errno {
	if d.status != machine.Running || d.out != "" {
		return api.ErrState
	}
	after := *d
	err := after.execute()
	d.steps, d.pulls = after.steps, after.pulls
	if err != api.OK {
		d.status, d.err = machine.Failed, err
		return err
	}
	*d = after
	return api.OK
}

func (d *description) take(n int) string {
	s := d.out[:max(0, min(n, len(d.out)))]
	d.out = d.out[len(s):]
	return s
}

func (d *description) resume() api.Errno {
	if d.status != machine.Flushing || d.out != "" {
		return api.ErrState
	}
	d.status = machine.Running
	return api.OK
}

func (d *description) execute() api.Errno {
	ins := d.code[d.at]
	d.at++
	switch ins.Op {
	case api.OpHalt:
		d.at--
		d.status = machine.Halted
		return api.OK
	case api.OpJump:
		d.at = ins.To
		return api.OK
	case api.OpRet:
		if d.top == nil || !d.top.isCall {
			return api.ErrState
		}
		d.at, d.scope, d.top = d.top.back, d.top.scope, d.top.below
		return api.OK
	}
	if d.steps >= 20000 {
		return api.ErrLimit
	}
	d.steps++
	switch ins.Op {
	case api.OpText:
		return d.write(ins.S)
	case api.OpFlush:
		d.status = machine.Flushing
		return api.OK
	case api.OpNext:
		return d.next(ins)
	case api.OpCall:
		return d.call(ins)
	}
	x, err := d.find(ins.Path)
	if err != api.OK {
		return err
	}
	return d.use(ins, x)
}

func (d *description) write(s string) api.Errno {
	if d.total+len(s) > 262144 {
		return api.ErrLimit
	}
	d.total += len(s)
	d.out = s
	return api.OK
}

// find returns the value at a path, or the error.
func (d *description) find(path string) (any, api.Errno) {
	names := strings.FieldsFunc(path, func(c rune) bool { return c == '.' })
	at := d.scope
	if _, isRoot := d.scope.(root); isRoot {
		if len(names) == 0 {
			return nil, api.ErrType
		}
		if !slices.Contains(d.pulls, names[0]) {
			d.pulls = append(slices.Clone(d.pulls), names[0])
		}
		x, ok := d.data[names[0]]
		if slices.Contains(d.failing, names[0]) {
			return nil, api.ErrProvider
		} else if !ok {
			return nil, api.ErrMissing
		}
		at, names = x, names[1:]
	}
	for _, name := range names {
		m, isMap := at.(object)
		x, ok := m[name]
		if !isMap {
			return nil, api.ErrType
		} else if !ok {
			return nil, api.ErrMissing
		}
		at = x
	}
	return at, api.OK
}

// use does what an instruction does with a value.
func (d *description) use(ins api.Ins, x any) api.Errno {
	switch x := x.(type) {
	case string, int:
		if ins.Op == api.OpPrint {
			form, _ := escape.Escape(ins.Esc, fmt.Sprint(x))
			return d.write(form)
		}
	case bool:
		if ins.Op == api.OpIf {
			if !x {
				d.at = ins.To
			}
			return api.OK
		}
	case list:
		if ins.Op == api.OpRange && len(x) == 0 {
			d.at = ins.To
			return api.OK
		} else if ins.Op == api.OpRange {
			d.top = &held{below: d.top, items: x, scope: d.scope}
			d.scope = x[0]
			return api.OK
		}
	}
	return api.ErrType
}

func (d *description) next(ins api.Ins) api.Errno {
	if d.top == nil || d.top.isCall {
		return api.ErrState
	}
	f := *d.top
	if f.items = f.items[1:]; len(f.items) == 0 {
		d.scope, d.top = f.scope, f.below
		return api.OK
	}
	d.at, d.scope, d.top = ins.To, f.items[0], &f
	return api.OK
}

func (d *description) call(ins api.Ins) api.Errno {
	if d.frames(true) == 16 {
		return api.ErrDepth
	}
	scope := d.scope
	if ins.Path != "" {
		x, err := d.find(ins.Path)
		if err != api.OK {
			return err
		}
		scope = x
	}
	d.top = &held{below: d.top, isCall: true, back: d.at, scope: d.scope}
	d.at, d.scope = ins.To, scope
	return api.OK
}

// pair is a machine and its description.
type pair struct {
	m *machine.Machine
	d *description
	p *provider.Provider
}

// world is data, also as fields, and the names for which the provider fails.
type world struct {
	data    object
	fields  []api.Field
	failing []string
}

func worldOf(data object, failing ...string) world { return world{data, of(data).Fields, failing} }

func (w world) provider() *provider.Provider {
	p, _ := provider.New(w.fields, w.failing)
	return p
}

func paired(t *testing.T, code []api.Ins, w world) pair {
	t.Helper()
	p := w.provider()
	return pair{machineFor(t, code, p), &description{code: code, data: w.data, failing: w.failing, scope: root{}}, p}
}

// agrees checks that the machine is as its description.
func (p pair) agrees(t *testing.T) {
	t.Helper()
	m, d := p.m, p.d
	if m.Status() != d.status || m.Err() != d.err || m.Index() != d.at || m.Steps() != d.steps || m.Frames() != d.frames(false) || m.Ready() != len(d.out) {
		t.Fatalf("status %d, error %v, index %d, %d steps, %d frames, %d bytes, want %d, %v, %d, %d, %d, %d: %v", m.Status(), m.Err(), m.Index(), m.Steps(), m.Frames(), m.Ready(),
			d.status, d.err, d.at, d.steps, d.frames(false), len(d.out), d.code)
	}
}

func (p pair) step(t *testing.T) {
	t.Helper()
	if err, want := p.m.Step(), p.d.step(); err != want {
		t.Fatalf("Step = %v, want %v: %v", err, want, p.d.code)
	}
	p.agrees(t)
}

func (p pair) take(t *testing.T, n int) {
	t.Helper()
	if b, want := p.m.Take(n), p.d.take(n); string(b) != want {
		t.Fatalf("Take(%d) = %.100q, want %.100q: %v", n, b, want, p.d.code)
	}
	p.agrees(t)
}

func (p pair) resume(t *testing.T) {
	t.Helper()
	if err, want := p.m.Resume(), p.d.resume(); err != want {
		t.Fatalf("Resume = %v, want %v: %v", err, want, p.d.code)
	}
	p.agrees(t)
}

// pulls checks what has been pulled.
func (p pair) pulls(t *testing.T) {
	t.Helper()
	if !slices.Equal(p.p.Pulls(), p.d.pulls) {
		t.Fatalf("%v are pulled, not %v: %v", p.p.Pulls(), p.d.pulls, p.d.code)
	}
}

// finish makes steps until the machine halts or fails, and takes and resumes as it has to. It returns the error.
func (p pair) finish(t *testing.T) api.Errno {
	t.Helper()
	for p.d.status == machine.Running || p.d.status == machine.Flushing {
		p.step(t)
		if p.d.out != "" {
			p.take(t, len(p.d.out))
		}
		if p.d.status == machine.Flushing {
			p.resume(t)
		}
	}
	p.pulls(t)
	p.step(t)
	p.resume(t)
	p.take(t, 1)
	return p.d.err
}

// small is data in which most instructions below succeed.
func small() world {
	item := object{"t": false, "s": "'", "l": list{}, "m": object{}}
	return worldOf(object{"t": true, "s": "<", "l": list{item, object{"t": true, "s": 5, "l": list{item, item, true}, "m": item}}, "m": object{"t": false, "s": "m", "l": list{item}, "m": item}, "ll": list{list{"a", 1}, list{}, list{list{"b"}}}}, "bad")
}

// targets are the indices to which an instruction at an index of code of a length can lead.
func targets(op, index, length int) (from, to int) {
	switch op {
	case api.OpIf, api.OpJump, api.OpRange:
		return index + 1, length - 1
	case api.OpNext:
		return 0, index
	case api.OpCall:
		return 0, length - 1
	}
	return 0, 0
}

// TestShortCode has all code of up to some instructions of several sets.
func TestShortCode(t *testing.T) { // P19.2 to P19.5
	for _, set := range []struct {
		most int
		ops  string
	}{
		{4, "text a;print s;print .;if t 0;jump 0;range l 0;next 0;call 0;call . 0;call m 0;ret;flush;halt"},
		{5, "print s;range l 0;next 0;call m 0;ret;halt"},
		{5, "print .;jump 0;range l 0;next 0;call 0;ret"},
		{4, "flush;range l 0;next 0;call l 0;call m 0;if t 0;ret;halt"},
		{5, "range ll 0;range . 0;print .;next 0;call . 0;halt"},
	} {
		all, w := assemble(set.ops), small()
		count := map[api.Errno]int{}
		var more func(code []api.Ins, length int)
		more = func(code []api.Ins, length int) {
			if len(code) == length {
				if _, err := compile.Check(code); err == api.OK {
					count[paired(t, code, w).finish(t)]++
				}
				return
			}
			for _, ins := range all {
				from, to := targets(ins.Op, len(code), length)
				for ins.To = from; ins.To <= to; ins.To++ {
					more(append(code, ins), length)
				}
			}
		}
		for length := 1; length <= set.most; length++ {
			more(nil, length)
		}
		if len(count) < 3 {
			t.Error(set.ops, count)
		}
	}
}

// numbers yields numbers in no order, the same at each start.
type numbers uint64

func (n *numbers) below(most int) int {
	*n = *n*6364136223846793005 + 1442695040888963407
	return int(uint64(*n) >> 33 % uint64(most))
}

// instruction returns an irregular instruction for an index of code of a length, which is valid.
func (n *numbers) instruction(index, length int) api.Ins {
	for {
		path := []string{"s", "t", "l", "m", "m.l", "m.s", "m.m", "", "x"}[n.below(9)]
		if n.below(3) > 0 {
			path = ""
		}
		kind := n.below(24)
		switch kind {
		case 0, 1:
			return api.Ins{Op: api.OpText, S: []string{"", "y", "<p>", "\xff"}[n.below(4)]}
		case 2, 3, 4:
			return api.Ins{Op: api.OpPrint, Path: []string{"s", "m.s", path}[n.below(3)], Esc: n.below(api.Escs)}
		case 5:
			return api.Ins{Op: api.OpFlush}
		case 6:
			if n.below(5) == 0 {
				return api.Ins{Op: api.OpHalt}
			}
		case 7, 8, 9:
			return api.Ins{Op: api.OpRet}
		case 10, 11, 12, 13:
			return api.Ins{Op: api.OpNext, To: n.below(index + 1)}
		case 14, 15, 16:
			has := n.below(2) == 0
			if !has {
				path = ""
			}
			return api.Ins{Op: api.OpCall, Path: path, HasPath: has, To: n.below(length)}
		default:
			if index < length-1 {
				to := index + 1 + n.below(length-1-index)
				switch {
				case kind < 18:
					return api.Ins{Op: api.OpJump, To: to}
				case kind < 20:
					return api.Ins{Op: api.OpIf, Path: []string{"t", "m.t", path}[n.below(3)], To: to}
				default:
					return api.Ins{Op: api.OpRange, Path: []string{"l", "m.l", "m.m.l", "l", path}[n.below(5)], To: to}
				}
			}
		}
	}
}

// any does one irregular call.
func (n *numbers) any(t *testing.T, p pair) {
	t.Helper()
	switch n.below(8) {
	case 0, 1, 2:
		p.step(t)
	case 3, 4:
		p.take(t, n.below(8)-1)
	case 5:
		p.take(t, []int{math.MinInt, math.MaxInt, -1, 0, 1000}[n.below(5)])
	default:
		p.resume(t)
	}
}

// TestIrregularCode has irregular code, with irregular calls and with those that lead to the end.
func TestIrregularCode(t *testing.T) { // P19.2 to P19.5
	n := numbers(19)
	count, w := map[api.Errno]int{}, small()
	steps := 0
	for range 60000 {
		code := make([]api.Ins, 1+n.below(12))
		for i := range code {
			code[i] = n.instruction(i, len(code))
		}
		code[len(code)-1] = []api.Ins{{Op: api.OpHalt}, {Op: api.OpRet}}[n.below(2)]
		p := paired(t, code, w)
		for range n.below(20) {
			n.any(t, p)
		}
		count[p.finish(t)]++
		steps = max(steps, p.d.steps)
	}
	if count[api.OK] < 1000 || count[api.ErrState] < 1000 || count[api.ErrType] < 1000 || count[api.ErrMissing] < 1000 || count[api.ErrDepth] < 1000 || count[api.ErrLimit] < 5 {
		t.Error(count, steps)
	}
}
