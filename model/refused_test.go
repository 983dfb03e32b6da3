package model_test

import (
	"strings"
	"testing"

	"tmplpipe/api"
	"tmplpipe/compile"
	"tmplpipe/model"
	"tmplpipe/parse"
)

// TestRefusedTemplates has templates that compile.Code refuses: Render fails with its error, and evaluates nothing.
func TestRefusedTemplates(t *testing.T) { // P4
	for src, err := range map[string]api.Errno{
		"x{{.s}}{{call g}}": api.ErrName,
		"x{{.s}}{{define f}}{{end}}{{define f}}y{{end}}":   api.ErrDuplicate,
		"x{{flush}}{{.s}}{{if .yes}}<b {{end}}":            api.ErrJoin,
		"{{.s}}{{range .l}}<b title='{{end}}":              api.ErrJoin,
		"{{.s}}<b {{.s}}>":                                 api.ErrContext,
		"{{.s}}<b {{call f}}>{{define f}}{{end}}":          api.ErrContext,
		"{{define f}}<script>{{.s}}</script>{{end}}{{.s}}": api.ErrContext,
		"x{{flush}}<b": api.ErrJoin,
		"{{.s}}<b {{.s}}>{{call g}}{{if .no}}<p{{end}}":          api.ErrName,
		"{{.bad}}{{if .no}}{{call g}}{{end}}{{define f}}{{end}}": api.ErrName,
	} {
		l, _, parsed := parse.Parse(src)
		_, at, refused := compile.Code(l)
		if parsed != api.OK || refused != err {
			t.Fatalf("%q: %v, %v", src, parsed, refused)
		}
		p := provided(sample(), "bad")
		isResult(t, src, model.Render(l, p), model.Result{At: at, Err: err}, p, "")
		isResult(t, src, model.Render(l, nil), model.Result{Err: api.ErrNil}, nil, "")
	}
}

// TestNodesThatNoSourceHas has nodes that parse never returns: Render returns all the same.
func TestNodesThatNoSourceHas(t *testing.T) { // P1
	print := []api.Node{{Kind: api.Print, Path: "s", At: 1}}
	for _, kind := range []int{-1, api.Text, api.Print, api.If, api.Range, api.Call, api.Flush, api.Define, 7, 99} {
		for _, path := range []string{"", "s", "yes", "no", "l", "none", "a..b", "."} {
			for _, inner := range []int{-1, api.Text, api.Print, api.Call, api.Define} {
				inside := []api.Node{{Kind: inner, S: "f", Path: path, Body: print, Else: print}}
				l := []api.Node{{Kind: kind, S: "f", Path: path, HasPath: path == "l", Body: inside, Else: inside}, {Kind: api.Define, S: "f", Body: print}}
				p := provided(sample(), "bad")
				if r := model.Render(l, p); r.Steps < 0 || r.Steps > 9 {
					t.Errorf("%v: %+v", l, r)
				}
			}
		}
	}
}

// TestEmptyTexts has Text nodes without text, which no source has either: they are steps, as any node.
func TestEmptyTexts(t *testing.T) { // P18.2
	empty := api.Node{Kind: api.Text, At: 5}
	p := provided(sample())
	isResult(t, "an empty text", model.Render([]api.Node{empty}, p), model.Result{Steps: 1}, p, "")
	l := []api.Node{empty, {Kind: api.Flush}, {Kind: api.Range, Path: "l", Body: []api.Node{empty, empty}}, {Kind: api.Text, S: "x"}, empty}
	isResult(t, "empty texts", model.Render(l, p), model.Result{Out: "x", Flush: []int{0}, Steps: 14}, p, "l")
	long := strings.Repeat("a", api.MaxOutput)
	full := provided(object{"v": long, "l": many(api.MaxSteps - 5)})
	l = []api.Node{{Kind: api.Print, Path: "v"}, empty, {Kind: api.Range, Path: "l"}, empty, empty, empty}
	isResult(t, "empty texts at the limits", model.Render(l, full), model.Result{Out: long, Steps: api.MaxSteps, At: 5, Err: api.ErrLimit}, full, "v l")
}
