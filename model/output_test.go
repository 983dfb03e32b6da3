package model_test

import (
	"strings"
	"testing"

	"tmplpipe/api"
	"tmplpipe/model"
)

// TestMostOutputOfAValue has values whose escaped form, behind a text or alone, fills the output, and one byte more.
func TestMostOutputOfAValue(t *testing.T) { // P18.2, P18.3
	for _, c := range []struct {
		before, behind string // the place of the value
		one, form      string // a piece of the value, and its escaped form
	}{
		{"", "", "a", "a"},
		{"", "", "<", "&lt;"},
		{"", "", "\"", "&#34;"},
		{"", "", "\xff", "\ufffd"},
		{"", "x", "\u20ac", "\u20ac"},
		{"<b title='", "'>", "=", "&#61;"},
		{"<b title='", "'>", "<b", "&lt;b"},
		{"<a href='", "'>", "/", "%2F"},
		{"<a href='", "'>", "\u20ac", "%E2%82%AC"},
		{"<script>'", "'</script>", "\n", `\u000a`},
		{"<script>'", "'</script>", "\u2028", `\u2028`},
		{"<style>'", "'</style>", "/", `\2f `},
		{"<style>'", "'</style>", "\x00", "\ufffd"},
	} {
		src, at := c.before+"{{.v}}{{flush}}"+c.behind, len(c.before)
		steps := 0 // before the value
		if c.before != "" {
			steps = 1
		}
		count := (api.MaxOutput - at) / len(c.form)
		rest := strings.Repeat("r", api.MaxOutput-at-count*len(c.form))
		full := strings.Repeat(c.one, count) + rest
		want := model.Result{Out: c.before + strings.Repeat(c.form, count) + rest, Flush: []int{api.MaxOutput}, Steps: steps + 2}
		if c.behind != "" {
			want.Steps, want.At, want.Err = steps+3, at+15, api.ErrLimit
		}
		limited(t, src, object{"v": full}, want, "v")
		for _, more := range []string{full + "r", "r" + full, full + c.one, c.one + full, full + full} {
			limited(t, src, object{"v": more}, model.Result{Out: c.before, Steps: steps + 1, At: at, Err: api.ErrLimit}, "v")
		}
	}
}

// full is a template with data, and what it outputs, marks, makes and pulls.
type full struct {
	src   string
	data  object
	want  model.Result
	pulls string
}

// fulls are templates that output a number of bytes.
func fulls(bytes int) []full {
	a := func(n int) string { return strings.Repeat("a", n) }
	some := bytes / 20
	return []full{
		{"{{.v}}", object{"v": a(bytes)}, model.Result{Out: a(bytes), Steps: 1}, "v"},
		{"{{.v}}{{flush}}{{.w}}", object{"v": a(bytes - 1), "w": "a"}, model.Result{Out: a(bytes), Flush: []int{bytes - 1}, Steps: 3}, "v w"},
		{"a{{flush}}{{.v}}", object{"v": a(bytes - 1)}, model.Result{Out: a(bytes), Flush: []int{1}, Steps: 3}, "v"},
		{"{{.v}}" + a(5000) + "{{flush}}", object{"v": a(bytes - 5000)}, model.Result{Out: a(bytes), Flush: []int{bytes}, Steps: 3}, "v"},
		{"{{range .v}}{{.}}{{end}}", object{"v": list{a(bytes - 3*some), a(some), a(some), a(some)}}, model.Result{Out: a(bytes), Steps: 9}, "v"},
		{"{{range .v}}" + a(some) + "{{end}}{{.w}}", object{"v": many(19), "w": a(bytes - 19*some)}, model.Result{Out: a(bytes), Steps: 40}, "v w"},
		{"{{call h .v}}{{define h}}{{.a}}{{if .b}}a{{end}}{{end}}", object{"v": object{"a": a(bytes - 1), "b": true}}, model.Result{Out: a(bytes), Steps: 4}, "v"},
		{strings.Repeat("{{.v}}", 8) + "{{.w}}", object{"v": a(some), "w": a(bytes - 8*some)}, model.Result{Out: a(bytes), Steps: 9}, "v w"},
	}
}

// TestNodesAtMostOutput has nodes behind output that is full, or where some bytes are left. Those that output too much
// append nothing, and those that output nothing, or as much as there is room for, do not fail for it.
func TestNodesAtMostOutput(t *testing.T) { // P18.2, P18.3
	turn := 0
	for _, n := range []struct {
		node, out        string
		steps, total, at int // the steps up to the node that outputs or fails, those of all, and the offset of that node
		err              api.Errno
		pulls            string
	}{
		{"b", "b", 1, 1, 0, api.OK, ""},
		{"bcd", "bcd", 1, 1, 0, api.OK, ""},
		{strings.Repeat("b", 10000), strings.Repeat("b", 10000), 1, 1, 0, api.OK, ""},
		{"{{.one}}", "1", 1, 1, 0, api.OK, " one"},
		{"{{.m.three}}", "333", 1, 1, 0, api.OK, " m"},
		{"{{.lt}}", "&lt;", 1, 1, 0, api.OK, " lt"},
		{"{{.minus}}", "-5", 1, 1, 0, api.OK, " minus"},
		{"{{if .yes}}bc{{end}}", "bc", 2, 2, 11, api.OK, " yes"},
		{"{{if .no}}{{else}}{{.lt}}{{end}}", "&lt;", 2, 2, 18, api.OK, " no lt"},
		{"{{range .l}}{{.}}{{end}}", "0", 2, 3, 12, api.OK, " l"},
		{"{{call f .}}{{define f}}fff{{end}}", "fff", 2, 2, 24, api.OK, ""},
		{"{{call f .one}}{{define f}}{{.}}{{end}}", "1", 2, 2, 27, api.OK, " one"},
		{"{{.empty}}", "", 1, 1, 0, api.OK, " empty"},
		{"{{if .no}}b{{end}}", "", 1, 1, 0, api.OK, " no"},
		{"{{range .none}}b{{end}}", "", 1, 1, 0, api.OK, " none"},
		{"{{call g}}{{define g}}{{end}}", "", 1, 1, 0, api.OK, ""},
		{"{{.x}}", "", 1, 1, 0, api.ErrMissing, " x"},
		{"{{.bad}}", "", 1, 1, 0, api.ErrProvider, " bad"},
		{"{{.yes}}", "", 1, 1, 0, api.ErrType, " yes"},
		{"{{.m}}", "", 1, 1, 0, api.ErrType, " m"},
		{"{{if .lt}}b{{end}}", "", 1, 1, 0, api.ErrType, " lt"},
		{"{{range .l}}{{if .}}b{{end}}{{end}}", "", 2, 2, 12, api.ErrType, " l"},
		{"{{call f .x}}{{define f}}b{{end}}", "", 1, 1, 0, api.ErrMissing, " x"},
	} {
		for _, left := range []int{0, 1, len(n.out) - 1, len(n.out), len(n.out) + 1, 9999} {
			if left < 0 {
				continue
			}
			all := fulls(api.MaxOutput - left)
			for range 2 { // in turn, since great values take their time
				f := all[turn%len(all)]
				turn++
				for name, v := range (object{"one": 1, "m": object{"three": 333}, "lt": "<", "minus": -5, "yes": true, "no": false, "l": many(1), "none": list{}, "empty": ""}) {
					f.data[name] = v
				}
				src, want := f.src+n.node, f.want
				switch {
				case n.err != api.OK:
					want.Steps, want.At, want.Err = want.Steps+n.steps, len(f.src)+n.at, n.err
				case len(n.out) > left:
					want.Steps, want.At, want.Err = want.Steps+n.steps, len(f.src)+n.at, api.ErrLimit
				default:
					want.Out, want.Steps = want.Out+n.out, want.Steps+n.total
				}
				limited(t, src, f.data, want, f.pulls+n.pulls)
			}
		}
	}
}

// TestNothingAfterMostOutput has nodes behind one that outputs too much, and pieces that would fit.
func TestNothingAfterMostOutput(t *testing.T) { // P18.2, P18.3
	long := strings.Repeat("a", api.MaxOutput-2)
	for _, behind := range []string{"", "b", "{{flush}}", "{{.n}}", "{{.x}}", "{{call f}}{{define f}}b{{end}}", "{{if .yes}}b{{end}}"} {
		data := object{"v": long, "w": "bcd", "lt": "<", "n": 1, "yes": true, "l": list{"b", "cd", "e"}}
		limited(t, "{{.v}}{{flush}}{{.w}}"+behind, data, model.Result{Out: long, Flush: []int{len(long)}, Steps: 3, At: 15, Err: api.ErrLimit}, "v w")
		limited(t, "{{.v}}{{flush}}{{.lt}}"+behind, data, model.Result{Out: long, Flush: []int{len(long)}, Steps: 3, At: 15, Err: api.ErrLimit}, "v lt")
		limited(t, "{{.v}}<p>{{flush}}"+behind, data, model.Result{Out: long, Steps: 2, At: 6, Err: api.ErrLimit}, "v")
		limited(t, "{{.v}}{{range .l}}{{.}}{{flush}}{{end}}"+behind, data, model.Result{Out: long + "b", Flush: []int{len(long) + 1}, Steps: 6, At: 18, Err: api.ErrLimit}, "v l")
		limited(t, "{{.n}}{{.n}}{{.v}}{{.n}}"+behind, data, model.Result{Out: "11" + long, Steps: 4, At: 18, Err: api.ErrLimit}, "n v")
	}
}

// TestStepsBeforeOutput has nodes that are beyond the steps and would output too much.
func TestStepsBeforeOutput(t *testing.T) { // P18.2, P18.3
	for _, node := range []string{"ab", "{{.w}}"} {
		for _, items := range []int{api.MaxSteps - 3, api.MaxSteps - 2} {
			long := strings.Repeat("a", api.MaxOutput-1)
			want, pulls := model.Result{Out: long, Steps: api.MaxSteps, At: 25, Err: api.ErrLimit}, "v l w"
			if items == api.MaxSteps-2 || node == "ab" { // the same result, but what is beyond the steps is not pulled
				pulls = "v l"
			}
			limited(t, "{{.v}}"+loop+node, object{"v": long, "w": "ab", "l": many(items)}, want, pulls)
		}
		long := strings.Repeat("a", api.MaxOutput-1)
		want := model.Result{Out: long, Steps: api.MaxSteps, At: 6, Err: api.ErrLimit}
		limited(t, "{{.v}}"+loop+node, object{"v": long, "w": "ab", "l": many(api.MaxSteps - 1)}, want, "v l")
	}
}
