package model_test

import (
	"math"
	"strings"
	"testing"

	"tmplpipe/api"
	"tmplpipe/model"
)

// failed is a template, and how its rendering with the sample fails.
type failed struct {
	src, out string
	flush    []int
	steps    int
	at       int
	err      api.Errno
	pulls    string
}

func fail(t *testing.T, rows []failed) {
	t.Helper()
	for _, r := range rows {
		p := provided(sample(), "bad")
		want := model.Result{Out: r.out, Flush: r.flush, Steps: r.steps, At: r.at, Err: r.err}
		isResult(t, r.src, model.Render(compiled(t, r.src), p), want, p, r.pulls)
	}
}

// badPath is a path that fails in the root of the sample, and what it pulls. If it has a value, this is of a kind, and the
// path fails only where that kind is not wanted.
type badPath struct {
	path  string
	err   api.Errno
	pulls string
	kind  int
}

const noValue = -1

func badPaths() []badPath {
	return []badPath{
		{"", api.ErrType, "", noValue},
		{"x", api.ErrMissing, "x", noValue},
		{"x.y.z", api.ErrMissing, "x", noValue},
		{"m.x", api.ErrMissing, "m", noValue},
		{"m.m.x", api.ErrMissing, "m", noValue},
		{"bad", api.ErrProvider, "bad", noValue},
		{"bad.x", api.ErrProvider, "bad", noValue},
		{"s.x", api.ErrType, "s", noValue},
		{"l.x", api.ErrType, "l", noValue},
		{"yes.x.y", api.ErrType, "yes", noValue},
		{"m.s.x", api.ErrType, "m", noValue},
		{"s", api.ErrType, "s", api.Str},
		{"e", api.ErrType, "e", api.Str},
		{"n", api.ErrType, "n", api.Int},
		{"z", api.ErrType, "z", api.Int},
		{"yes", api.ErrType, "yes", api.Bool},
		{"no", api.ErrType, "no", api.Bool},
		{"l", api.ErrType, "l", api.List},
		{"none", api.ErrType, "none", api.List},
		{"m", api.ErrType, "m", api.Map},
		{"m.s", api.ErrType, "m", api.Str},
		{"m.no", api.ErrType, "m", api.Bool},
		{"m.none", api.ErrType, "m", api.List},
		{"m.m", api.ErrType, "m", api.Map},
	}
}

// around are places for a node, with what happens up to it.
func around() []failed {
	return []failed{
		{src: "@"},
		{src: "x@y", out: "x", steps: 1},
		{src: "{{flush}}{{.s}}{{flush}}@{{flush}}", out: "&lt;x&gt;", flush: []int{0, 9}, steps: 3, pulls: "s"},
		{src: "{{if .yes}}a@b{{else}}c{{end}}d", out: "a", steps: 2, pulls: "yes"},
		{src: "{{if .no}}a{{else}}b@c{{end}}d", out: "b", steps: 2, pulls: "no"},
		{src: "{{if .yes}}{{if .no}}{{else}}@{{end}}{{end}}", steps: 2, pulls: "yes no"},
		{src: "{{define g}}a@b{{end}}c{{call g}}d", out: "ca", steps: 3},
		{src: "{{call g .}}{{call g}}{{define g}}{{call h .}}{{end}}c{{define h}}@{{end}}", steps: 2},
		{src: "{{range .l}}{{.}}{{end}}@", out: "abc", steps: 7, pulls: "l"},
		{src: "{{if .no}}@{{end}}{{range .none}}@{{end}}{{define g}}@{{end}}-@", out: "-", steps: 3, pulls: "no none"},
	}
}

// TestFailingPaths has each kind of node that has a path, with paths that fail, in several places.
func TestFailingPaths(t *testing.T) { // P18.2, P18.3
	for _, b := range badPaths() {
		for _, a := range around() {
			for _, n := range []struct {
				node  string
				kinds []int
			}{
				{"{{.@}}", []int{api.Str, api.Int}},
				{"{{if .@}}u{{end}}", []int{api.Bool}},
				{"{{if .@}}u{{else}}v{{end}}", []int{api.Bool}},
				{"{{range .@}}u{{end}}", []int{api.List}},
				{"{{call f .@}}", []int{api.Str, api.Int, api.Bool, api.List, api.Map}},
			} {
				fine := n.node == "{{call f .@}}" && b.path == "" // which is no path of its own
				for _, kind := range n.kinds {
					fine = fine || kind == b.kind
				}
				if fine {
					continue
				}
				node := strings.Replace(n.node, "@", b.path, 1)
				at := strings.LastIndex(strings.ReplaceAll(a.src, "@", node), node)
				pulls := strings.TrimSpace(a.pulls + " " + b.pulls)
				if b.pulls == "" || strings.Contains(" "+a.pulls+" ", " "+b.pulls+" ") {
					pulls = a.pulls
				}
				src := strings.ReplaceAll(a.src, "@", node) + "{{define f}}F{{end}}"
				fail(t, []failed{{src, a.out, a.flush, a.steps + 1, at, b.err, pulls}})
			}
		}
	}
}

// TestFailuresInLoops has Bodies that fail at the first, a middle or the last item.
func TestFailuresInLoops(t *testing.T) { // P18.2, P18.3
	for which := range 3 {
		items := list{"a", "b", "c"}
		for _, src := range []string{"x{{range .l}}-{{.}}+{{flush}}{{end}}y", "x{{define f}}-{{.}}+{{flush}}{{end}}{{range .l}}{{call f}}{{end}}y"} {
			items[which] = true // has no text
			p := provided(object{"l": items})
			one := 5
			want := model.Result{Out: "x" + strings.Repeat("-?+", which) + "-", At: strings.Index(src, "{{.}}"), Err: api.ErrType}
			if strings.Contains(src, "call") {
				one++
			}
			want.Steps = 2 + one*which + one - 3
			for i := range which {
				want.Out = strings.Replace(want.Out, "?", []string{"a", "b", "c"}[i], 1)
				want.Flush = append(want.Flush, 1+3*(i+1))
			}
			isResult(t, src, model.Render(compiled(t, src), p), want, p, "l")
		}
	}
	fail(t, []failed{
		{"{{range .l}}{{.s}}{{end}}", "", nil, 2, 12, api.ErrType, "l"},
		{"{{range .lm}}{{.s}}{{.x}}{{end}}", "p", nil, 3, 19, api.ErrMissing, "lm"},
		{"{{range .lm}}{{range .l}}{{.}}{{.}}{{if .}}{{end}}{{end}}{{end}}", "rr", nil, 5, 35, api.ErrType, "lm"},
		{"{{range .l}}{{range .}}{{end}}{{end}}", "", nil, 2, 12, api.ErrType, "l"},
		{"{{range .ll}}{{range .}}{{.}}{{end}}{{.}}{{end}}", "12", nil, 7, 36, api.ErrType, "ll"},
		{"{{range .lm}}{{if .yes}}{{.s}}{{else}}{{.x}}{{end}}{{end}}", "p", nil, 6, 38, api.ErrMissing, "lm"},
		{"{{range .l}}{{.}}{{end}}{{range .l}}{{.}}{{.x}}{{end}}", "abca", nil, 10, 41, api.ErrType, "l"},
		{"{{range .lm}}{{call f .l}}{{.yes}}{{end}}{{define f}}{{range .}}{{.}}{{end}}{{end}}", "r", nil, 6, 26, api.ErrType, "lm"},
		{"{{range .lb}}{{if .}}y{{else}}{{.}}{{end}}{{end}}", "y", nil, 6, 30, api.ErrType, "lb"},
	})
}

// TestScopesOfFailures has paths that work in another scope than that in which they are resolved.
func TestScopesOfFailures(t *testing.T) { // P18.1, P18.2, P18.3
	fail(t, []failed{
		{"{{range .lm}}{{.n}}{{end}}", "", nil, 2, 13, api.ErrMissing, "lm"},
		{"{{range .one}}{{.n}}{{end}}", "", nil, 2, 14, api.ErrType, "one"},
		{"{{range .lm}}{{.s}}{{end}}{{.}}", "pq", nil, 6, 26, api.ErrType, "lm"},
		{"{{call f .m}}{{define f}}{{.e}}{{end}}", "", nil, 2, 25, api.ErrMissing, "m"},
		{"{{call f .m}}{{call f}}{{define f}}{{.m.s}}{{.m.m.s}}{{end}}", "mm", nil, 3, 43, api.ErrMissing, "m"},
		{"{{call f}}{{call f .m}}{{define f}}{{.m.s}}{{end}}", "m&amp;mm", nil, 4, 0, api.OK, "m"},
		{"{{call f .m}}{{.}}{{define f}}{{.s}}{{end}}", "m&amp;", nil, 3, 13, api.ErrType, "m"},
		{"{{call f .}}{{define f}}{{.}}{{end}}", "", nil, 2, 24, api.ErrType, ""},
		{"{{call f}}{{define f}}{{if .}}{{end}}{{end}}", "", nil, 2, 22, api.ErrType, ""},
		{"{{call f}}{{define f}}{{range .}}{{end}}{{end}}", "", nil, 2, 22, api.ErrType, ""},
		{"{{call f .l}}{{define f}}{{.l}}{{end}}", "", nil, 2, 25, api.ErrType, "l"},
		{"{{call f .m}}{{define f}}{{call g .bad}}{{end}}{{define g}}x{{end}}", "", nil, 2, 25, api.ErrMissing, "m"},
		{"{{range .lm}}{{call f .bad}}{{end}}{{define f}}x{{end}}", "", nil, 2, 13, api.ErrMissing, "lm"},
	})
}

// TestNothingAfterAFailure has nodes behind a failing one: none of them is evaluated, and nothing is pulled for them.
func TestNothingAfterAFailure(t *testing.T) { // P18.2, P18.3
	behind := []string{"x", "{{.s}}", "{{flush}}", "{{if .yes}}x{{end}}", "{{range .l}}{{.}}{{end}}", "{{call g}}", "{{call g .m}}", "{{.y}}", "{{define h}}{{.e}}{{end}}"}
	var all []failed
	for _, b := range append(behind, strings.Join(behind, "")) {
		b += "{{define g}}{{.s}}{{end}}"
		all = append(all,
			failed{"a{{.x}}" + b, "a", nil, 2, 1, api.ErrMissing, "x"},
			failed{"a{{flush}}{{if .n}}" + strings.Split(b, "{{define")[0] + "{{end}}" + b, "a", []int{1}, 3, 10, api.ErrType, "n"},
			failed{"{{range .bad}}{{end}}" + b, "", nil, 1, 0, api.ErrProvider, "bad"},
			failed{"{{call g .none.x}}" + b, "", nil, 1, 0, api.ErrType, "none"},
			failed{"{{call k}}" + b + "{{define k}}z{{.m.x}}" + strings.Split(b, "{{define")[0] + "{{end}}", "z", nil, 3, len("{{call k}}"+b) + 13, api.ErrMissing, "m"},
			failed{"{{range .one}}{{.}}{{.x}}" + strings.Split(b, "{{define")[0] + "{{end}}" + b, "&amp;", nil, 3, 19, api.ErrType, "one"},
		)
	}
	fail(t, all)
}

// TestNamesThatArePulled has names in nodes that are not evaluated, names that are read several times, and names in scopes
// other than the root: only those that are read in the root are pulled, in the order in which they are read first.
func TestNamesThatArePulled(t *testing.T) { // P18.3
	succeed(t, []row{
		{"{{if .no}}{{.s}}{{.bad}}{{.x}}{{else}}{{.n}}{{end}}{{.z}}", "-50", nil, 3, "no n z"},
		{"{{if .yes}}{{.n}}{{else}}{{.s}}{{if .x}}{{end}}{{end}}", "-5", nil, 2, "yes n"},
		{"{{range .none}}{{.s}}{{call f .x}}{{end}}{{define f}}{{.bad}}{{end}}", "", nil, 1, "none"},
		{"{{define f}}{{.bad}}{{end}}{{define g}}{{.x}}{{end}}{{.z}}", "0", nil, 1, "z"},
		{"{{call f .m}}{{define f}}{{.s}}{{.n}}{{if .yes}}{{end}}{{end}}", "m&amp;7", nil, 4, "m"},
		{"{{range .lm}}{{.s}}{{if .yes}}{{end}}{{end}}{{.z}}{{.s}}", "pq0&lt;x&gt;", nil, 9, "lm z s"},
		{"{{.m.s}}{{.m.n}}{{range .m.l}}{{end}}{{if .m.no}}{{end}}{{call f .m}}{{define f}}{{end}}", "m&amp;7", nil, 7, "m"},
		{"{{call f .}}{{call f}}{{define f}}{{.z}}{{call g .}}{{end}}{{define g}}{{.n}}{{end}}", "0-50-5", nil, 8, "z n"},
		{"x{{flush}}", "x", []int{1}, 2, ""},
	})
	fail(t, []failed{
		{"{{.s}}{{.s}}{{.x}}{{.n}}", "&lt;x&gt;&lt;x&gt;", nil, 3, 12, api.ErrMissing, "s x"},
		{"{{if .x}}{{.s}}{{else}}{{.n}}{{end}}", "", nil, 1, 0, api.ErrMissing, "x"},
		{"{{range .bad}}{{.s}}{{end}}{{.n}}", "", nil, 1, 0, api.ErrProvider, "bad"},
		{"{{call f .x}}{{define f}}{{.s}}{{end}}", "", nil, 1, 0, api.ErrMissing, "x"},
		{"{{.z}}{{.}}{{.n}}", "0", nil, 2, 6, api.ErrType, "z"},
	})
}

// moved returns a copy of nodes whose offsets are others.
func moved(l []api.Node, to func(at int) int) []api.Node {
	var all []api.Node
	for _, n := range l {
		n.At, n.Body, n.Else = to(n.At), moved(n.Body, to), moved(n.Else, to)
		all = append(all, n)
	}
	return all
}

// offsets are functions that lead to other offsets, not necessarily different ones or such that ascend.
func offsets() []func(at int) int {
	return []func(at int) int{
		func(at int) int { return at },
		func(at int) int { return 0 },
		func(at int) int { return -1 },
		func(at int) int { return 7 },
		func(at int) int { return -at },
		func(at int) int { return 5 - 3*at },
		func(at int) int { return at % 3 },
		func(at int) int { return at ^ 21 },
		func(at int) int { return math.MinInt + at },
		func(at int) int { return math.MaxInt - at },
		func(at int) int { return at << 40 },
	}
}

// TestArbitraryOffsets has nodes with other offsets than in their source: only At of a failure depends on them.
func TestArbitraryOffsets(t *testing.T) { // P18.2
	for src, err := range map[string]api.Errno{
		"": api.OK, "x{{.n}}{{flush}}": api.OK, varied: api.OK,
		"a{{.n}}b{{.x}}": api.ErrMissing,
		"{{if .yes}}x{{.s}}{{range .l}}{{.}}{{.x}}{{end}}{{end}}":                             api.ErrType,
		"{{call f .m}}{{define f}}{{.s}}<a href='{{.n}}'>{{.s}}{{.x}}{{end}}":                 api.ErrMissing,
		"x{{call f .bad}}{{define f}}{{end}}":                                                 api.ErrProvider,
		"{{flush}}{{if .n}}{{end}}":                                                           api.ErrType,
		"{{if .no}}{{else}}a{{range .s}}{{end}}{{end}}":                                       api.ErrType,
		"x{{call f}}{{define f}}{{if .yes}}{{call f}}{{end}}{{end}}":                          api.ErrDepth,
		"{{range .l}}{{range .}}{{end}}{{end}}":                                               api.ErrType,
		"{{call f .great}}{{define f}}{{range .}}{{end}}{{end}}":                              api.ErrLimit,
		"{{call f .great}}{{define f}}{{range .}}{{.}}{{end}}{{end}}":                         api.ErrLimit,
		"{{call f .great}}{{define f}}x{{range .}}{{if .}}{{else}}{{.}}{{end}}{{end}}{{end}}": api.ErrType,
		"{{.long}}{{.long}}x{{.long}}":                                                        api.ErrLimit,
	} {
		l := compiled(t, src)
		data := sample()
		data["great"], data["long"] = make(list, api.MaxSteps), strings.Repeat("<", api.MaxOutput/10)
		for i := range api.MaxSteps {
			data["great"].(list)[i] = i
		}
		first := provided(data, "bad")
		r := model.Render(l, first)
		if r.Err != err {
			t.Errorf("Render of %q = %+v, want %v", src, short(r), err)
		}
		for _, to := range offsets() {
			want := r
			if r.Err != api.OK {
				want.At = to(r.At)
			}
			p := provided(data, "bad")
			other := model.Render(moved(l, to), p)
			isResult(t, src, other, want, p, strings.Join(first.Pulls(), " "))
		}
	}
}
