package model_test

import (
	"slices"
	"strings"
	"testing"

	"tmplpipe/api"
	"tmplpipe/compile"
	"tmplpipe/model"
	"tmplpipe/parse"
	"tmplpipe/provider"
)

// compiled returns the nodes of a template that is accepted.
func compiled(t *testing.T, src string) []api.Node {
	t.Helper()
	l, at, err := parse.Parse(src)
	if err == api.OK {
		_, at, err = compile.Code(l)
	}
	if err != api.OK {
		t.Fatalf("%.200q is not accepted: %d, %v", src, at, err)
	}
	return l
}

// short returns a result with the beginning of its output only.
func short(r model.Result) model.Result {
	if len(r.Out) > 300 {
		r.Out = r.Out[:300]
	}
	return r
}

// isResult checks a result, and the names that a provider has pulled, separated by spaces.
func isResult(t *testing.T, src string, r, want model.Result, p *provider.Provider, pulls string) {
	t.Helper()
	if r.Out != want.Out || !slices.Equal(r.Flush, want.Flush) || r.Steps != want.Steps || r.At != want.At || r.Err != want.Err {
		t.Errorf("Render of %.200q = %+v (%d bytes), want %+v (%d bytes)", src, short(r), len(r.Out), short(want), len(want.Out))
	}
	if all := strings.Join(p.Pulls(), " "); all != pulls {
		t.Errorf("Render of %.200q pulls %q, want %q", src, all, pulls)
	}
}

// sample is the data of most tests; there, the provider fails for the name bad.
func sample() object {
	return object{
		"s": "<x>", "e": "", "n": -5, "z": 0, "yes": true, "no": false,
		"l": list{"a", "b", "c"}, "none": list{}, "one": list{"&"}, "ll": list{list{"1", "2"}, list{}, list{"3"}},
		"m":  object{"s": "m&", "n": 7, "yes": true, "no": false, "l": list{1, 2}, "none": list{}, "m": object{"s": "mm"}, "ll": list{list{5}}},
		"lm": list{object{"s": "p", "yes": true, "l": list{"r"}}, object{"s": "q", "yes": false, "l": list{}}},
		"lb": list{true, false, true},
	}
}

// row is a template, and what its rendering with the sample is to be.
type row struct {
	src, out string
	flush    []int
	steps    int
	pulls    string
}

// succeed checks templates whose rendering does not fail.
func succeed(t *testing.T, rows []row) {
	t.Helper()
	for _, r := range rows {
		p := provided(sample(), "bad")
		want := model.Result{Out: r.out, Flush: r.flush, Steps: r.steps}
		isResult(t, r.src, model.Render(compiled(t, r.src), p), want, p, r.pulls)
	}
}

func TestExample(t *testing.T) { // P18.2, P18.3
	p := provided(object{"a": "<"})
	src := "x{{.a}}{{flush}}y{{.b}}"
	want := model.Result{Out: "x&lt;y", Flush: []int{5}, Steps: 5, At: 17, Err: api.ErrMissing}
	isResult(t, src, model.Render(compiled(t, src), p), want, p, "a b")
}

// TestNoProvider has the nil provider, also for templates that fail otherwise and for such as need no value.
func TestNoProvider(t *testing.T) { // P18.2
	for _, src := range []string{"", "x", "x{{flush}}", "{{.a}}", "x{{.}}", "{{define f}}{{call f}}{{end}}{{call f}}"} {
		isResult(t, src, model.Render(compiled(t, src), nil), model.Result{Err: api.ErrNil}, nil, "")
	}
	isResult(t, "", model.Render([]api.Node{}, nil), model.Result{Err: api.ErrNil}, nil, "")
}

// TestNodes has nodes of each kind, alone.
func TestNodes(t *testing.T) { // P18.2, P18.3
	succeed(t, []row{
		{"", "", nil, 0, ""},
		{"x", "x", nil, 1, ""},
		{"<p>&amp;</p>\x00\xff", "<p>&amp;</p>\x00\xff", nil, 1, ""},
		{"}}", "}}", nil, 1, ""},
		{"{{flush}}", "", []int{0}, 1, ""},
		{"{{.s}}", "&lt;x&gt;", nil, 1, "s"},
		{"{{.e}}", "", nil, 1, "e"},
		{"{{.n}}", "-5", nil, 1, "n"},
		{"{{.z}}", "0", nil, 1, "z"},
		{"{{.m.s}}", "m&amp;", nil, 1, "m"},
		{"{{.m.m.s}}", "mm", nil, 1, "m"},
		{"{{.m.n}}", "7", nil, 1, "m"},
		{"{{if .yes}}{{end}}", "", nil, 1, "yes"},
		{"{{if .no}}{{end}}", "", nil, 1, "no"},
		{"{{if .yes}}x{{end}}", "x", nil, 2, "yes"},
		{"{{if .no}}x{{end}}", "", nil, 1, "no"},
		{"{{if .yes}}x{{else}}y{{end}}", "x", nil, 2, "yes"},
		{"{{if .no}}x{{else}}y{{end}}", "y", nil, 2, "no"},
		{"{{if .yes}}{{else}}y{{end}}", "", nil, 1, "yes"},
		{"{{if .no}}x{{else}}{{end}}", "", nil, 1, "no"},
		{"{{if .m.yes}}x{{end}}", "x", nil, 2, "m"},
		{"{{if .m.no}}x{{else}}y{{end}}", "y", nil, 2, "m"},
		{"{{range .none}}{{end}}", "", nil, 1, "none"},
		{"{{range .none}}x{{end}}", "", nil, 1, "none"},
		{"{{range .one}}{{end}}", "", nil, 2, "one"},
		{"{{range .one}}x{{end}}", "x", nil, 3, "one"},
		{"{{range .one}}{{.}}{{end}}", "&amp;", nil, 3, "one"},
		{"{{range .l}}{{end}}", "", nil, 4, "l"},
		{"{{range .l}}x{{end}}", "xxx", nil, 7, "l"},
		{"{{range .l}}{{.}}x{{end}}", "axbxcx", nil, 10, "l"},
		{"{{range .m.l}}{{.}}{{end}}", "12", nil, 5, "m"},
		{"{{define f}}{{end}}", "", nil, 0, ""},
		{"{{define f}}x{{.x}}{{end}}", "", nil, 0, ""},
		{"{{define f}}{{end}}{{call f}}", "", nil, 1, ""},
		{"{{call f}}{{define f}}x{{end}}", "x", nil, 2, ""},
		{"{{call f .m}}{{define f}}{{.s}}{{end}}", "m&amp;", nil, 2, "m"},
		{"{{call f .}}{{define f}}{{.n}}{{end}}", "-5", nil, 2, "n"},
	})
}

// TestNodesOneAfterAnother has nodes of all kinds, in lists.
func TestNodesOneAfterAnother(t *testing.T) { // P18.2, P18.3
	succeed(t, []row{
		{"x{{.n}}y{{.z}}", "x-5y0", nil, 4, "n z"},
		{"{{.z}}{{.n}}{{.z}}{{.s}}{{.n}}", "0-50&lt;x&gt;-5", nil, 5, "z n s"},
		{"{{.m.s}}{{.m.n}}{{.m.m.s}}", "m&amp;7mm", nil, 3, "m"},
		{"{{if .no}}a{{end}}b{{if .yes}}c{{else}}d{{end}}e", "bce", nil, 5, "no yes"},
		{"{{range .l}}-{{end}}{{range .none}}x{{end}}{{range .l}}+{{end}}.", "---+++.", nil, 16, "l none"},
		{"a{{define f}}b{{end}}c{{call f}}d{{call f}}", "acbdb", nil, 7, ""},
		{"{{define f}}1{{end}}a{{define g}}2{{end}}b{{define h}}3{{end}}", "ab", nil, 2, ""},
		{"{{define f}}1{{end}}{{call h}}{{define g}}2{{end}}{{call f}}{{define h}}3{{end}}{{call g}}", "312", nil, 6, ""},
		{"{{flush}}a{{.n}}{{flush}}{{if .yes}}b{{end}}{{range .one}}{{.}}{{end}}{{call f}}{{define f}}c{{end}}", "a-5b&amp;c", []int{0, 3}, 11, "n yes one"},
	})
}

// inside are nodes of each kind, which work in the root, and what they output, mark and pull. The marks are relative.
func inside() []row {
	return []row{
		{"", "", nil, 0, ""},
		{"x", "x", nil, 1, ""},
		{"{{.s}}", "&lt;x&gt;", nil, 1, "s"},
		{"{{flush}}", "", []int{0}, 1, ""},
		{"u{{flush}}v", "uv", []int{1}, 3, ""},
		{"{{if .no}}x{{end}}", "", nil, 1, "no"},
		{"{{if .yes}}x{{.n}}{{end}}", "x-5", nil, 3, "yes n"},
		{"{{if .no}}x{{else}}{{.z}}{{flush}}{{end}}", "0", []int{1}, 3, "no z"},
		{"{{range .none}}{{.}}{{end}}", "", nil, 1, "none"},
		{"{{range .l}}{{.}}{{flush}}{{end}}", "abc", []int{1, 2, 3}, 10, "l"},
		{"{{range .ll}}[{{range .}}{{.}},{{end}}]{{end}}", "[1,2,][][3,]", nil, 22, "ll"},
		{"{{call g}}", "G", nil, 2, ""},
		{"{{call h .}}", "-5m&amp;", nil, 3, "n m"},
		{"{{call h .m}}", "7mm", nil, 3, "m"},
	}
}

// TestNodesWithinNodes has each of them within each other kind of node, once, several times or not at all.
func TestNodesWithinNodes(t *testing.T) { // P18.2, P18.3
	for _, r := range inside() {
		for _, w := range []struct {
			before, behind, out string // out is what is output before
			times, steps        int
			pulls               string
		}{
			{"", "", "", 1, 0, ""},
			{"abc{{.z}}", "", "abc0", 1, 2, "z"},
			{"{{if .yes}}", "{{end}}", "", 1, 1, "yes"},
			{"{{if .no}}", "{{end}}", "", 0, 1, "no"},
			{"{{if .yes}}{{.z}}", "{{else}}y{{end}}", "0", 1, 2, "yes z"},
			{"{{if .no}}", "{{else}}{{end}}", "", 0, 1, "no"},
			{"{{if .no}}y{{else}}", "{{end}}", "", 1, 1, "no"},
			{"{{if .yes}}{{else}}", "{{end}}", "", 0, 1, "yes"},
			{"{{if .yes}}{{if .no}}{{else}}", "{{end}}{{end}}", "", 1, 2, "yes no"},
			{"{{define f}}", "{{end}}", "", 0, 0, ""},
			{"{{define f}}", "{{end}}{{call f}}", "", 1, 1, ""},
			{"{{define f}}", "{{end}}{{call f .}}", "", 1, 1, ""},
			{"{{call f}}{{define f}}", "{{end}}{{call f .}}", "", 2, 2, ""},
			{"ab{{define f}}{{call e}}{{end}}{{define e}}", "{{end}}{{call f}}", "ab", 1, 3, ""},
			{"{{range .none}}", "{{end}}", "", 0, 1, "none"},
		} {
			pulls := strings.Fields(w.pulls)
			want := model.Result{Out: w.out, Steps: w.steps + w.times*r.steps}
			for range w.times {
				for _, mark := range r.flush {
					want.Flush = append(want.Flush, len(want.Out)+mark)
				}
				want.Out += r.out
			}
			for _, name := range strings.Fields(r.pulls) {
				if w.times > 0 && !slices.Contains(pulls, name) {
					pulls = append(pulls, name)
				}
			}
			src := w.before + r.src + w.behind + "{{define g}}G{{end}}{{define h}}{{.n}}{{.m.s}}{{end}}"
			p := provided(sample(), "bad")
			isResult(t, src, model.Render(compiled(t, src), p), want, p, strings.Join(pulls, " "))
		}
	}
}

// TestNodesInItems has nodes of each kind in the scope of the items of a list.
func TestNodesInItems(t *testing.T) { // P18.2, P18.3
	succeed(t, []row{
		{"{{range .lm}}x{{end}}", "xx", nil, 5, "lm"},
		{"{{range .lm}}{{.s}}{{end}}", "pq", nil, 5, "lm"},
		{"{{range .lm}}{{if .yes}}y{{else}}n{{end}}{{end}}", "yn", nil, 7, "lm"},
		{"{{range .lm}}{{if .yes}}{{.s}}{{end}}{{end}}", "p", nil, 6, "lm"},
		{"{{range .lm}}{{.s}}{{range .l}}{{.}}{{end}}{{.s}}{{end}}", "prpqq", nil, 11, "lm"},
		{"{{range .lm}}{{flush}}{{.s}}{{end}}{{flush}}", "pq", []int{0, 1, 2}, 8, "lm"},
		{"{{range .lb}}{{if .}}y{{else}}n{{end}}{{end}}", "yny", nil, 10, "lb"},
		{"{{range .ll}}{{range .}}{{.}}{{end}};{{end}}", "12;;3;", nil, 16, "ll"},
		{"{{range .m.ll}}{{range .}}{{.}}{{end}}{{end}}", "5", nil, 5, "m"},
		{"{{range .lm}}{{call f}}{{end}}{{define f}}({{.s}}){{end}}", "(p)(q)", nil, 11, "lm"},
		{"{{range .l}}{{call f .}}{{end}}{{define f}}({{.}}){{end}}", "(a)(b)(c)", nil, 16, "l"},
		{"{{range .lm}}{{call f .l}}{{end}}{{define f}}{{range .}}{{.}}{{end}}{{end}}", "r", nil, 9, "lm"},
	})
}

// TestScopes has nodes whose scope is the root again, or that of the caller, behind loops and calls.
func TestScopes(t *testing.T) { // P18.2
	succeed(t, []row{
		{"{{range .lm}}{{.s}}{{end}}{{.n}}", "pq-5", nil, 6, "lm n"},
		{"{{call f .m}}{{.n}}{{define f}}{{.n}}{{end}}", "7-5", nil, 3, "m n"},
		{"{{call f .m}}{{call f}}{{call f .}}{{define f}}{{.n}}{{end}}", "7-5-5", nil, 6, "m n"},
		{"{{call f .m}}{{define f}}{{call g .m}}{{.s}}{{end}}{{define g}}{{.s}}{{end}}", "mmm&amp;", nil, 4, "m"},
		{"{{call f .m}}{{define f}}{{call g}}{{end}}{{define g}}{{.s}}{{call h .}}{{end}}{{define h}}{{.m.s}}{{end}}", "m&amp;mm", nil, 5, "m"},
		{"{{call f .m}}{{define f}}{{range .l}}{{.}}{{end}}{{.s}}{{end}}", "12m&amp;", nil, 7, "m"},
		{"{{range .lm}}{{call f .l}}{{.s}}{{end}}{{.n}}{{define f}}{{range .}}{{.}}{{end}}{{end}}", "rpq-5", nil, 12, "lm n"},
		{"{{if .m.yes}}{{.n}}{{end}}{{if .m.no}}{{else}}{{.n}}{{end}}", "-5-5", nil, 4, "m n"},
		{"{{range .ll}}{{range .}}{{.}}{{end}}{{call f .}}{{end}}{{define f}}{{range .}}!{{.}}{{end}}{{end}}", "12!1!23!3", nil, 28, "ll"},
		{"{{call f .l}}{{define f}}{{range .}}{{call g .}}{{call g}}{{end}}{{end}}{{define g}}{{.}}{{end}}", "aabbcc", nil, 17, "l"},
		{"{{call f .s}}{{define f}}{{.}}{{end}}", "&lt;x&gt;", nil, 2, "s"},
		{"{{call f .yes}}{{define f}}{{if .}}x{{end}}{{end}}", "x", nil, 3, "yes"},
		{"{{call f .none}}{{define f}}{{range .}}x{{end}}{{end}}", "", nil, 2, "none"},
		{"{{call f .m.m}}{{define f}}{{.s}}{{end}}", "mm", nil, 2, "m"},
		{"{{call f .none}}{{define f}}{{end}}", "", nil, 1, "none"},
	})
}
