package machine_test

import (
	"bytes"
	"slices"
	"strings"
	"sync"
	"testing"

	"tmplpipe/api"
	"tmplpipe/machine"
	"tmplpipe/model"
	"tmplpipe/value"
)

// varied has nodes of all kinds, an interpolation with each escaper, and calls to and fro. It succeeds with the sample.
const varied = `a{{.s}}{{define f}}<style>'{{.n}}'</style>{{if .yes}}{{call g .m}}{{end}}{{end}}<a href="{{.s}}{{if .no}}{{.x}}" title="{{else}}"id="{{end}}{{.s}}{{range .l}}{{.}}{{end}}">{{call g}}` +
	`{{define g}}{{if .no}}{{call f}}{{else}}{{.s}}{{end}}{{end}}<script>"{{.s}}{{flush}}"</script>{{if .yes}}{{call f .}}{{else}}b{{end}}{{range .ll}}{{flush}}{{range .}}{{call h .}}{{end}}{{end}}{{define h}}{{.}}{{end}}`

func resultOfVaried() model.Result {
	out := `a&lt;x&gt;<a href="%3Cx%3E"id="&lt;x&gt;abc">&lt;x&gt;<script>"\u003cx\u003e"</script><style>'-5'</style>m&amp;123`
	begin := strings.Index(out, `"</script>`)
	return model.Result{Out: out, Flush: []int{begin, len(out) - 3, len(out) - 1, len(out) - 1}, Steps: 50}
}

// isVaried checks what a machine for the varied template outputs.
func isVaried(t *testing.T, m *machine.Machine, piece func() int) {
	t.Helper()
	r, want := evaluated(t, m, piece), resultOfVaried()
	if r.Out != want.Out || !slices.Equal(r.Flush, want.Flush) || r.Steps != want.Steps || r.Err != api.OK {
		t.Errorf("%+v, want %+v", r, want)
	}
}

func TestAllTogether(t *testing.T) { // P19.5
	l, code := compiled(t, varied)
	w := worldOf(sample(), "bad")
	for _, size := range []int{1, 2, 3, 10, 1000} {
		isVaried(t, machineFor(t, code, w.provider()), func() int { return size })
		rendersAs(t, varied, l, code, w, func() int { return size })
	}
	if err := paired(t, code, w).finish(t); err != api.OK {
		t.Error(err)
	}
}

// TestPulls has the names that have been pulled behind each step.
func TestPulls(t *testing.T) { // P19.1, P19.2
	for _, c := range []struct{ listing, pulls string }{
		{"text a;print s;if yes 3;range l 5;next 4;call m 6;print n;halt", ";s;s yes;s yes l;s yes l;s yes l;s yes l;s yes l m;s yes l m;s yes l m"},
		{"if no 2;print s;print n;halt", "no;no n;no n"},
		{"range none 2;print s;print n;halt", "none;none n;none n"},
		{"print s;print s;print m.s;print m.n;print s;halt", "s;s;s m;s m;s m;s m"},
		{"range lm 2;print s;print s;print x;halt", "lm;lm;lm;lm"},
		{"call m 1;print s;print n;call m 4;print s;halt", "m;m;m;m;m;m"},
		{"call 1;print s;call . 3;print n;halt", ";s;s;s n;s n"},
		{"print x;halt", "x"},
		{"print bad.x;halt", "bad"},
		{"print .;halt", ""},
		{"jump 2;print s;flush;halt", ";;"},
	} {
		p := provided(sample(), "bad")
		m := machineFor(t, assemble(c.listing), p)
		var seen []string
		for m.Status() == machine.Running {
			m.Step()
			seen = append(seen, strings.Join(p.Pulls(), " "))
			m.Take(100)
			m.Resume()
			m.Ready()
		}
		if got := strings.Join(seen, ";"); got != c.pulls {
			t.Errorf("%s pulls %q, want %q", c.listing, got, c.pulls)
		}
	}
}

// TestOneProvider has machines with the same provider, also one that has pulled names before.
func TestOneProvider(t *testing.T) { // P19.1, rule 6
	p := provided(sample(), "bad")
	_, code := compiled(t, varied)
	p.Get("n")
	p.Get("x")
	for range 3 {
		isVaried(t, machineFor(t, code, p), whole)
	}
	if got := strings.Join(p.Pulls(), " "); got != "n x s no l yes m ll" {
		t.Error(got)
	}
	for _, name := range []string{"m", "ll", "l", "s"} { // the values are as before
		v, err := p.Get(name)
		if err != api.OK || !value.Equal(v, of(sample()[name])) {
			t.Error(name, v, err)
		}
	}
}

// TestTaken changes what Take returned, up to its capacity.
func TestTaken(t *testing.T) { // P19.3, rule 4
	for _, listing := range []string{"text abcdefgh;text ijklmnop;text q;text abcdefgh;halt", "print v;print w;print u;print v;halt", "range l 3;print .;next 1;halt"} {
		data := object{"v": "abcdefgh", "w": "ijklmnop", "u": "q", "l": list{"abcdefgh", "ijklmnop", "q", "abcdefgh"}}
		code := assemble(listing)
		for _, size := range []int{1, 2, 3, 5, 8, 100} {
			p := provided(data)
			m := machineFor(t, code, p)
			var taken [][]byte
			var all bytes.Buffer
			for m.Status() == machine.Running {
				m.Step()
				b := m.Take(size)
				all.Write(b)
				taken = append(taken, b)
				for _, b := range taken { // none of them has changed, and none shares memory with another
					for i := range b[:cap(b)] {
						b[:cap(b)][i] = '!'
					}
				}
				if n := m.Ready(); n > 0 {
					c, d := m.Take(1), m.Take(n/2)
					all.Write(c)
					all.Write(d)
					c = append(c, "!!!!!!!!!!"...)
					taken = append(taken, c, d)
				}
			}
			if all.String() != "abcdefghijklmnopqabcdefgh" || m.Err() != api.OK {
				t.Errorf("%s, %d: %q, %v", listing, size, all.String(), m.Err())
			}
			if v, _ := p.Get("v"); v.S != "abcdefgh" {
				t.Error(v)
			}
		}
		if !slices.Equal(code, assemble(listing)) {
			t.Error("the code was changed")
		}
	}
	m := machineFor(t, assemble("text abcdef;halt"), provided(nil))
	m.Step()
	first := m.Take(2)
	m.Take(4)
	if string(first) != "ab" {
		t.Errorf("%q", first)
	}
}

// TestTwoMachines has machines with one code, in turn, each of which is at another place.
func TestTwoMachines(t *testing.T) { // P2, P19.1
	_, code := compiled(t, varied)
	w := worldOf(sample(), "bad")
	shared := w.provider()
	for lead := range 30 {
		machines := []*machine.Machine{machineFor(t, code, shared), machineFor(t, code, shared), machineFor(t, code, w.provider())}
		failing := machineFor(t, assemble("call m 2;halt;text a;print bad;halt"), shared)
		outs := make([]bytes.Buffer, len(machines))
		advance := func(i int) {
			m := machines[i]
			m.Step()
			outs[i].Write(m.Take(m.Ready()))
			m.Resume()
			failing.Step()
			failing.Take(1)
		}
		for range lead {
			advance(0)
		}
		for i := range 300 {
			advance(i % len(machines))
		}
		for i, m := range machines {
			if outs[i].String() != resultOfVaried().Out || m.Steps() != 50 || m.Status() != machine.Halted {
				t.Fatal(lead, i, outs[i].String(), m.Steps(), m.Status())
			}
		}
		if failing.Err() != api.ErrMissing || failing.Frames() != 1 || failing.Steps() != 3 {
			t.Fatal(failing.Err(), failing.Frames(), failing.Steps())
		}
	}
}

// TestDeterminism has the same calls with the same arguments, again and again.
func TestDeterminism(t *testing.T) { // rule 7
	_, code := compiled(t, varied)
	want := ""
	for i := range 5 {
		m := machineFor(t, code, provided(sample(), "bad"))
		var seen []string
		for m.Status() == machine.Running {
			seen = append(seen, stepped(t, m))
		}
		if got := strings.Join(seen, ";"); i > 0 && got != want {
			t.Fatal(got, want)
		} else {
			want = got
		}
	}
}

// TestCallsAtATime calls the functions concurrently with the same code, and a machine and a provider of each goroutine.
func TestCallsAtATime(t *testing.T) { // rule 6
	_, code := compiled(t, varied)
	var group sync.WaitGroup
	for i := range 8 {
		group.Go(func() {
			for range 50 {
				isVaried(t, machineFor(t, code, provided(sample(), "bad")), func() int { return i + 1 })
			}
		})
	}
	group.Wait()
}
