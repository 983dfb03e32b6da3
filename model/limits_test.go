package model_test

import (
	"fmt"
	"strings"
	"testing"

	"tmplpipe/api"
	"tmplpipe/model"
)

// loop is a template that makes one step, and one more for each item of .l, without output.
const loop = "{{range .l}}{{end}}"

// many returns a list of that many items.
func many(items int) list {
	l := make(list, items)
	for i := range l {
		l[i] = i % 10
	}
	return l
}

// limited checks the rendering of a template with data.
func limited(t *testing.T, src string, data object, want model.Result, pulls string) {
	t.Helper()
	p := provided(data, "bad")
	isResult(t, src, model.Render(compiled(t, src), p), want, p, pulls)
}

// TestMostStepsOfLoops has loops that make about as many steps as there can be: what fails beyond it is a node in the Body,
// the Range itself, or a node behind it.
func TestMostStepsOfLoops(t *testing.T) { // P18.2, P18.3
	const most = api.MaxSteps
	for _, c := range []struct {
		src       string
		items     int
		out       string
		steps, at int
		err       api.Errno
	}{
		{loop, most - 2, "", most - 1, 0, api.OK},
		{loop, most - 1, "", most, 0, api.OK},
		{loop, most, "", most, 0, api.ErrLimit},
		{loop, most + 1, "", most, 0, api.ErrLimit},
		{loop, 3 * most, "", most, 0, api.ErrLimit},
		{"ab" + loop, most - 2, "ab", most, 0, api.OK},
		{"ab" + loop, most - 1, "ab", most, 2, api.ErrLimit},
		{loop + "ab", most - 2, "ab", most, 0, api.OK},
		{loop + "ab", most - 1, "", most, len(loop), api.ErrLimit},
		{loop + "ab", most, "", most, 0, api.ErrLimit},
		{loop + "a{{.n}}", most - 2, "a", most, len(loop) + 1, api.ErrLimit},
		{"{{range .l}}x{{end}}", most/2 - 1, strings.Repeat("x", most/2-1), most - 1, 0, api.OK},
		{"{{range .l}}x{{end}}", most / 2, strings.Repeat("x", most/2), most, 0, api.ErrLimit},
		{"{{range .l}}x{{end}}", most, strings.Repeat("x", most/2), most, 0, api.ErrLimit},
		{"a{{range .l}}x{{end}}", most/2 - 1, "a" + strings.Repeat("x", most/2-1), most, 0, api.OK},
		{"a{{range .l}}x{{end}}", most / 2, "a" + strings.Repeat("x", most/2-1), most, 13, api.ErrLimit},
		{"{{range .l}}x{{if .}}y{{end}}{{end}}", most, "x", 3, 13, api.ErrType},
		{"{{range .l}}x{{.}}{{end}}", most / 3, strings.Repeat("x0x1x2x3x4x5x6x7x8x9", most/30) + "x0x1x2x3x4x5", most - 1, 0, api.OK},
		{"{{range .l}}x{{.}}{{end}}", most/3 + 1, strings.Repeat("x0x1x2x3x4x5x6x7x8x9", most/30) + "x0x1x2x3x4x5x", most, 13, api.ErrLimit},
		{"a{{range .l}}x{{.}}{{end}}", most/3 + 1, "a" + strings.Repeat("x0x1x2x3x4x5x6x7x8x9", most/30) + "x0x1x2x3x4x5", most, 13, api.ErrLimit},
	} {
		limited(t, c.src, object{"l": many(c.items), "n": 1}, model.Result{Out: c.out, Steps: c.steps, At: c.at, Err: c.err}, "l")
	}
}

// TestMostStepsOfLoopsInLoops has loops in loops, in blocks and in definitions.
func TestMostStepsOfLoopsInLoops(t *testing.T) { // P18.2, P18.3
	const most = api.MaxSteps
	for _, c := range []struct {
		src       string
		items     int
		steps, at int
		err       api.Errno
	}{
		{"{{range .ll}}{{range .}}{{end}}{{end}}", most - 3, most, 0, api.OK},
		{"{{range .ll}}{{range .}}{{end}}{{end}}", most - 2, most, 0, api.ErrLimit},
		{"{{range .ll}}{{range .}}{{end}}{{end}}", most - 1, most, 13, api.ErrLimit},
		{"{{range .ll}}{{range .}}{{end}}{{end}}", most, most, 13, api.ErrLimit},
		{"{{range .ll}}{{range .}}{{end}}x{{end}}", most - 2, most, 31, api.ErrLimit},
		{"{{range .ll}}{{call f .}}{{end}}{{define f}}{{range .}}{{end}}{{end}}", most - 4, most, 0, api.OK},
		{"{{range .ll}}{{call f .}}{{end}}{{define f}}{{range .}}{{end}}{{end}}", most - 3, most, 0, api.ErrLimit},
		{"{{range .ll}}{{call f .}}{{end}}{{define f}}{{range .}}{{end}}{{end}}", most - 2, most, 44, api.ErrLimit},
		{"{{range .ll}}{{if .}}{{end}}{{end}}", most, 2, 13, api.ErrType},
	} {
		limited(t, c.src, object{"ll": list{many(c.items)}}, model.Result{Steps: c.steps, At: c.at, Err: c.err}, "ll")
	}
	for _, src := range []string{"{{if .yes}}" + loop + "x{{end}}", "{{if .yes}}" + loop + "{{end}}x"} {
		limited(t, src, object{"yes": true, "l": many(most - 3)}, model.Result{Out: "x", Steps: most}, "yes l")
		limited(t, src, object{"yes": true, "l": many(most - 2)}, model.Result{Steps: most, At: strings.Index(src, "x"), Err: api.ErrLimit}, "yes l")
		limited(t, src, object{"yes": true, "l": many(most - 1)}, model.Result{Steps: most, At: 11, Err: api.ErrLimit}, "yes l")
	}
}

// last is a node, what is output, marked and pulled for it if it is the last that can be evaluated, and how it fails then.
type last struct {
	node, out string
	flush     []int
	err       api.Errno
	pulls     string
}

func lasts() []last {
	return []last{
		{"x", "x", nil, api.OK, ""},
		{"{{.n}}", "5", nil, api.OK, " n"},
		{"{{.e}}", "", nil, api.OK, " e"},
		{"{{flush}}", "", []int{2}, api.OK, ""},
		{"{{if .yes}}{{end}}", "", nil, api.OK, " yes"},
		{"{{if .no}}a{{end}}", "", nil, api.OK, " no"},
		{"{{if .no}}a{{else}}{{end}}", "", nil, api.OK, " no"},
		{"{{range .none}}a{{end}}", "", nil, api.OK, " none"},
		{"{{call f}}", "", nil, api.OK, ""},
		{"{{call f .}}", "", nil, api.OK, ""},
		{"{{call f .n}}", "", nil, api.OK, " n"},
		{"{{.}}", "", nil, api.ErrType, ""},
		{"{{.x}}", "", nil, api.ErrMissing, " x"},
		{"{{.bad}}", "", nil, api.ErrProvider, " bad"},
		{"{{.yes}}", "", nil, api.ErrType, " yes"},
		{"{{if .x}}a{{end}}", "", nil, api.ErrMissing, " x"},
		{"{{if .n}}a{{else}}b{{end}}", "", nil, api.ErrType, " n"},
		{"{{range .bad}}{{end}}", "", nil, api.ErrProvider, " bad"},
		{"{{range .e}}{{end}}", "", nil, api.ErrType, " e"},
		{"{{call f .x}}", "", nil, api.ErrMissing, " x"},
		{"{{call f .n.x}}", "", nil, api.ErrType, " n"},
		{"{{.long}}", "", nil, api.ErrLimit, " long"},
	}
}

// TestLastStep has each kind of node as the last that can be evaluated, which counts also if it fails, and as the first
// that cannot be evaluated, for which nothing is pulled.
func TestLastStep(t *testing.T) { // P18.2, P18.3
	data := func(items int) object {
		return object{"l": many(items), "n": 5, "e": "", "yes": true, "no": false, "none": list{}, "long": strings.Repeat("x", api.MaxOutput)}
	}
	for _, n := range lasts() {
		src := "ab" + loop + n.node + "{{define f}}{{end}}"
		if n.node == "x" {
			src = loop + "ab{{if .no}}{{end}}x"
		}
		before := strings.LastIndex(src, n.node)
		want := model.Result{Out: "ab" + n.out, Flush: n.flush, Steps: api.MaxSteps, Err: n.err}
		if n.err != api.OK {
			want.At = before
		}
		beyond := model.Result{Out: "ab", Steps: api.MaxSteps, At: before, Err: api.ErrLimit}
		pulls, items := "l", api.MaxSteps-3
		if n.node == "x" {
			pulls, items = "l no", items-1
		}
		limited(t, src, data(items), want, pulls+n.pulls)
		limited(t, src, data(items+1), beyond, pulls)
		want.Steps--
		limited(t, src, data(items-1), want, pulls+n.pulls)
	}
}

// chain returns the source of a number of definitions d0, d1, and so on, each of which calls the next between two texts,
// and the last of which has the Body end. The path of each call is the empty one, or there is none.
func chain(definitions int, end string) string {
	var b strings.Builder
	for i := range definitions - 1 {
		fmt.Fprintf(&b, "{{define d%d}}({{call d%d%s}}){{end}}", i, i+1, []string{"", " ."}[i%2])
	}
	fmt.Fprintf(&b, "{{define d%d}}%s{{end}}", definitions-1, end)
	return b.String()
}

// TestDeepCalls has as many calls within each other as there can be, and one more.
func TestDeepCalls(t *testing.T) { // P18.2, P18.3
	const most = api.MaxDepth
	data := object{"n": 5, "no": false, "yes": true, "l": list{"i", "j"}}
	open, closed := strings.Repeat("(", most-1), strings.Repeat(")", most-1)
	succeeding := func(end, out string, steps int, pulls string) {
		t.Helper()
		limited(t, "{{call d0}}"+chain(most, end), data, model.Result{Out: open + out + closed, Steps: 1 + 3*(most-1) + steps}, pulls)
		limited(t, chain(most, end)+"{{call d0}}-{{call d0 .}}", data, model.Result{Out: open + out + closed + "-" + open + out + closed, Steps: 3 + 6*(most-1) + 2*steps}, pulls)
	}
	succeeding("", "", 0, "")
	succeeding("x", "x", 1, "")
	succeeding("{{.n}}", "5", 1, "n")
	succeeding("{{if .no}}{{call d0}}{{else}}y{{end}}", "y", 2, "no")
	succeeding("{{range .l}}{{.}}{{end}}", "ij", 5, "l")
	failing := func(definitions int, end, out string, steps int, at string, err api.Errno, pulls string) {
		t.Helper()
		src := "{{call d0}}" + chain(definitions, end)
		want := model.Result{Out: open[:definitions-1] + out, Steps: 1 + 2*(definitions-1) + steps, At: strings.LastIndex(src, at), Err: err}
		limited(t, src, data, want, pulls)
	}
	failing(most, "{{.x}}", "", 1, "{{.x}}", api.ErrMissing, "x")
	failing(most, "{{.n}}{{.}}", "5", 2, "{{.}}", api.ErrType, "n")
	failing(most, "x{{call d0}}", "x", 2, "{{call d0}}", api.ErrDepth, "")
	failing(most, "{{call d15 .}}", "", 1, "{{call d15 .}}", api.ErrDepth, "")
	failing(most, "{{call d0 .n}}", "", 1, "{{call d0 .n}}", api.ErrDepth, "")
	failing(most, "{{call d0 .x}}", "", 1, "{{call d0 .x}}", api.ErrDepth, "")
	failing(most, "{{call d0 .bad}}", "", 1, "{{call d0 .bad}}", api.ErrDepth, "")
	failing(most, "{{.n}}{{call d0 .n.x}}", "5", 2, "{{call d0 .n.x}}", api.ErrDepth, "n")
	failing(most, "{{if .yes}}{{range .l}}{{call d0}}{{end}}{{end}}", "", 3, "{{call d0}}", api.ErrDepth, "yes l")
	failing(most-1, "{{call d0 .x}}", "", 1, "{{call d0 .x}}", api.ErrMissing, "x")
	failing(most-1, "{{call d0 .n.x}}", "", 1, "{{call d0 .n.x}}", api.ErrType, "n")
	failing(1, "{{call d0 .x}}", "", 1, "{{call d0 .x}}", api.ErrMissing, "x")
	src := "{{call d0}}" + chain(most+1, "x")
	limited(t, src, data, model.Result{Out: open + "(", Steps: 1 + 2*most, At: strings.Index(src, "{{call d16"), Err: api.ErrDepth}, "")
}

// TestRecursion has definitions that call themselves, or each other.
func TestRecursion(t *testing.T) { // P18.2, P18.3
	const most = api.MaxDepth
	limited(t, "{{call f}}{{define f}}x{{call f}}y{{end}}", nil, model.Result{Out: strings.Repeat("x", most), Steps: 1 + 2*most, At: 23, Err: api.ErrDepth}, "")
	limited(t, "{{call f}}{{define f}}x{{call g}}{{end}}{{define g}}{{flush}}{{call f}}{{end}}", nil,
		model.Result{Out: strings.Repeat("x", most/2), Flush: []int{1, 2, 3, 4, 5, 6, 7, 8}, Steps: 1 + 2*most, At: 61, Err: api.ErrDepth}, "")
	// A map that is as deep as the calls, with a failure one call before the depth, or at it, or with an end.
	m := object{"more": false}
	for depth := 1; depth < most+3; depth++ {
		src := "{{call f .m}}{{define f}}x{{if .more}}{{call f .m}}{{end}}{{end}}"
		want := model.Result{Out: strings.Repeat("x", depth), Steps: 3 * depth}
		if depth > most {
			want = model.Result{Out: strings.Repeat("x", most), Steps: 3*most + 1, At: 38, Err: api.ErrDepth}
		}
		limited(t, src, object{"m": m}, want, "m")
		m = object{"more": true, "m": m}
	}
	m = object{"more": true}
	for depth := 1; depth < most+3; depth++ {
		src := "{{call f .m}}{{define f}}x{{if .more}}{{call f .m}}{{end}}{{end}}"
		want := model.Result{Out: strings.Repeat("x", depth), Steps: 3*depth + 1, At: 38, Err: api.ErrMissing}
		if depth >= most {
			want = model.Result{Out: strings.Repeat("x", most), Steps: 3*most + 1, At: 38, Err: api.ErrDepth}
		}
		limited(t, src, object{"m": m}, want, "m")
		m = object{"more": true, "m": m}
	}
}

// TestManyCallsBesideEachOther has more calls than there can be within each other, each of which has ended before the next.
func TestManyCallsBesideEachOther(t *testing.T) { // P18.2
	n := 5 * api.MaxDepth
	limited(t, strings.Repeat("{{call f}}", n)+"{{define f}}x{{end}}", nil, model.Result{Out: strings.Repeat("x", n), Steps: 2 * n}, "")
	limited(t, "{{range .l}}{{call f}}{{call f .}}{{end}}{{define f}}{{call g}}{{end}}{{define g}}{{.}}{{end}}", object{"l": list{1, 2, 3, 4, 5, 6, 7, 8, 9}},
		model.Result{Out: "112233445566778899", Steps: 1 + 9*7}, "l")
	limited(t, strings.Repeat("{{call d0}}", 20)+chain(api.MaxDepth, "x"), nil,
		model.Result{Out: strings.Repeat(strings.Repeat("(", api.MaxDepth-1)+"x"+strings.Repeat(")", api.MaxDepth-1), 20), Steps: 20 * (2 + 3*(api.MaxDepth-1))}, "")
}

// TestStepsBeforeDepth has a call that is both beyond the steps and too deep.
func TestStepsBeforeDepth(t *testing.T) { // P18.2, P18.3
	src := loop + "{{call f}}{{define f}}{{call f .}}{{end}}"
	steps := 1 + api.MaxDepth // of the calls, of which the last fails
	limited(t, src, object{"l": many(api.MaxSteps - 1 - steps)}, model.Result{Steps: api.MaxSteps, At: 41, Err: api.ErrDepth}, "l")
	limited(t, src, object{"l": many(api.MaxSteps - steps)}, model.Result{Steps: api.MaxSteps, At: 41, Err: api.ErrLimit}, "l")
	limited(t, src, object{"l": many(api.MaxSteps - 2)}, model.Result{Steps: api.MaxSteps, At: 41, Err: api.ErrLimit}, "l")
	limited(t, src, object{"l": many(api.MaxSteps - 1)}, model.Result{Steps: api.MaxSteps, At: 19, Err: api.ErrLimit}, "l")
}
