package stream_test

import (
	"fmt"
	"math"
	"slices"
	"strconv"
	"strings"
	"testing"

	"tmplpipe/api"
	"tmplpipe/compile"
	"tmplpipe/machine"
	"tmplpipe/model"
	"tmplpipe/parse"
	"tmplpipe/provider"
	"tmplpipe/stream"
	"tmplpipe/value"
	"tmplpipe/writer"
)

// object is a map as a Go value, and list is a list.
type (
	object = map[string]any
	list   = []any
)

// provided returns a new provider with the fields of data, which fails for some names.
func provided(data object, failing ...string) *provider.Provider {
	v, err := value.From(data)
	if err != api.OK {
		panic(err)
	}
	p, err := provider.New(v.Fields, failing)
	if err != api.OK {
		panic(err)
	}
	return p
}

// sample is the data of most tests.
func sample() object {
	return object{
		"s": "<x>", "e": "", "n": -5, "yes": true, "no": false,
		"l": list{"a", "b", "c"}, "none": list{}, "ll": list{list{"1", "2"}, list{}, list{"3"}}, "m": object{"s": "m&", "l": list{1, 2}},
	}
}

// render returns what a template outputs.
func render(t *testing.T, src string, p *provider.Provider) model.Result {
	t.Helper()
	l, at, err := parse.Parse(src)
	if err != api.OK {
		t.Fatalf("%.200q is not accepted: %d, %v", src, at, err)
	}
	return model.Render(l, p)
}

// compiled returns the code of a template that is accepted.
func compiled(t *testing.T, src string) []api.Ins {
	t.Helper()
	code, at, err := compile.Compile(src)
	if err != api.OK {
		t.Fatalf("%.200q is not accepted: %d, %v", src, at, err)
	}
	return code
}

// assemble returns the code of a listing, in which a semicolon is between instructions. A period is the empty path.
func assemble(listing string) []api.Ins {
	var code []api.Ins
	for _, line := range strings.Split(listing, ";") {
		line = strings.TrimLeft(line, " ")
		if text, ok := strings.CutPrefix(line, "text "); ok {
			code = append(code, api.Ins{Op: api.OpText, S: text})
			continue
		}
		words := strings.Fields(line)
		ins := api.Ins{Op: slices.Index([]string{"text", "print", "if", "jump", "range", "next", "call", "ret", "flush", "halt"}, words[0])}
		if ins.Op < 0 {
			panic(line)
		}
		for _, word := range words[1:] {
			if to, err := strconv.Atoi(word); err == nil {
				ins.To = to
			} else {
				ins.Path, ins.HasPath = strings.TrimPrefix(word, "."), ins.Op == api.OpCall
			}
		}
		code = append(code, ins)
	}
	return code
}

// machineFor returns a new machine for code that is valid.
func machineFor(t *testing.T, code []api.Ins, p *provider.Provider) *machine.Machine {
	t.Helper()
	m, err := machine.New(code, p)
	if m == nil || err != api.OK {
		t.Fatalf("machine.New(%v) = %v, %v", code, m, err)
	}
	return m
}

// accepting is a schedule of some outcomes that accept everything.
func accepting(outcomes int) []int { return slices.Repeat([]int{math.MaxInt}, outcomes) }

// rig is a stream with what it connects.
type rig struct {
	p *provider.Provider
	m *machine.Machine
	w *writer.Writer
	s *stream.Stream
}

// connected returns a rig with a new stream of some objects.
func connected(t *testing.T, p *provider.Provider, m *machine.Machine, w *writer.Writer, capacity, most int) rig {
	t.Helper()
	s, err := stream.New(m, w, capacity, most)
	if s == nil || err != api.OK {
		t.Fatalf("New(%d, %d) = %v, %v", capacity, most, s, err)
	}
	return rig{p, m, w, s}
}

// rigged returns a rig of new objects.
func rigged(t *testing.T, code []api.Ins, p *provider.Provider, capacity, most int, schedule ...int) rig {
	t.Helper()
	return connected(t, p, machineFor(t, code, p), writer.New(schedule...), capacity, most)
}

// sight is all that can be seen of a rig.
type sight struct {
	stats                               stream.Stats
	done                                bool
	err                                 api.Errno
	status, index, steps, frames, ready int
	machineErr                          api.Errno
	pulls                               string
	calls, left                         int
	delivered                           string
}

// look looks at a rig, which changes nothing.
func (r rig) look() sight {
	return sight{
		r.s.Stats(), r.s.Done(), r.s.Err(),
		r.m.Status(), r.m.Index(), r.m.Steps(), r.m.Frames(), r.m.Ready(), r.m.Err(),
		strings.Join(r.p.Pulls(), " "),
		r.w.Calls(), r.w.Left(), string(r.w.Bytes()),
	}
}

// visible replaces the ends of lines.
func visible(s string) string { return strings.ReplaceAll(s, "\r\n", "|") }

// numberOf is the word for a number that has changed.
func numberOf(name string, before, after int) []string {
	if before == after {
		return nil
	}
	return []string{name + " " + strconv.Itoa(after)}
}

// change describes what has changed from a sight to another. Only the names that are pulled, the steps, and the number of
// outcomes are left out; but a write that accepts nothing is told from none.
func change(before, after sight) string {
	words := slices.Concat(
		numberOf("at", before.index, after.index), numberOf("frames", before.frames, after.frames), numberOf("ready", before.ready, after.ready),
		numberOf("buffered", before.stats.Buffered, after.stats.Buffered), numberOf("pending", before.stats.Pending, after.stats.Pending),
		numberOf("chunks", before.stats.Chunks, after.stats.Chunks), numberOf("flushes", before.stats.Flushes, after.stats.Flushes),
	)
	if before.status != after.status {
		words = append(words, []string{"running", "flushing", "halted", "failed"}[after.status])
	}
	if before.calls != after.calls {
		words = append(words, fmt.Sprintf("writes %q", visible(after.delivered[len(before.delivered):])))
	}
	if !before.done && after.done {
		words = append(words, "done")
	}
	if before.err != after.err {
		words = append(words, "broken")
	}
	return strings.Join(words, " ")
}

// acted performs an action and describes it: what has changed, and the error, if any.
func (r rig) acted() string {
	before := r.look()
	err := r.s.Step()
	s := change(before, r.look())
	if err != api.OK {
		s = strings.TrimSpace(s + " " + err.Error())
	}
	return s
}

// traced performs a number of actions and describes them, with semicolons between.
func (r rig) traced(actions int) string {
	var seen []string
	for range actions {
		seen = append(seen, r.acted())
	}
	return strings.Join(seen, "; ")
}

// body is what is delivered of the output of a template in chunks of at most most bytes: what is between flush marks is in
// chunks of its own, and the last chunk is there only if the template succeeds.
func body(r model.Result, most int) string {
	var b strings.Builder
	from := 0
	for _, mark := range append(slices.Clone(r.Flush), len(r.Out)) {
		for chunk := range slices.Chunk([]byte(r.Out[from:mark]), most) {
			fmt.Fprintf(&b, "%x\r\n%s\r\n", len(chunk), chunk)
		}
		from = mark
	}
	if r.Err == api.OK {
		b.WriteString("0\r\n\r\n")
	}
	return b.String()
}

// filler is a string of that many bytes.
func filler(bytes int) string { return strings.Repeat("abc", bytes/3) + "abc"[:bytes%3] }
