package model_test

import (
	"slices"
	"strings"
	"sync"
	"testing"

	"tmplpipe/api"
	"tmplpipe/model"
	"tmplpipe/provider"
	"tmplpipe/value"
)

// varied has nodes of all kinds, an interpolation with each escaper, and calls to and fro. It succeeds with the sample.
const varied = `a{{.s}}{{define f}}<style>'{{.n}}'</style>{{if .yes}}{{call g .m}}{{end}}{{end}}<a href="{{.s}}{{if .no}}{{.x}}" title="{{else}}"id="{{end}}{{.s}}{{range .l}}{{.}}{{end}}">{{call g}}` +
	`{{define g}}{{if .no}}{{call f}}{{else}}{{.s}}{{end}}{{end}}<script>"{{.s}}{{flush}}"</script>{{if .yes}}{{call f .}}{{else}}b{{end}}{{range .ll}}{{flush}}{{range .}}{{call h .}}{{end}}{{end}}{{define h}}{{.}}{{end}}`

const pullsOfVaried = "s no l yes n m ll"

func resultOfVaried() model.Result {
	out := `a&lt;x&gt;<a href="%3Cx%3E"id="&lt;x&gt;abc">&lt;x&gt;<script>"\u003cx\u003e"</script><style>'-5'</style>m&amp;123`
	begin := strings.Index(out, `"</script>`)
	return model.Result{Out: out, Flush: []int{begin, len(out) - 3, len(out) - 1, len(out) - 1}, Steps: 50}
}

func variedIs(t *testing.T, l []api.Node) {
	t.Helper()
	p := provided(sample(), "bad")
	isResult(t, varied, model.Render(l, p), resultOfVaried(), p, pullsOfVaried)
}

func TestAllTogether(t *testing.T) { // P18.2, P18.3
	l := compiled(t, varied)
	variedIs(t, l)
	if err := isAs(t, varied, l, sample(), "bad"); err != api.OK {
		t.Fatal(err)
	}
}

// same reports whether two lists of nodes have equal fields, recursively, also equal offsets.
func same(a, b []api.Node) bool {
	return slices.EqualFunc(a, b, func(x, y api.Node) bool {
		return x.Kind == y.Kind && x.At == y.At && x.S == y.S && x.Path == y.Path && x.HasPath == y.HasPath && x.HasElse == y.HasElse &&
			same(x.Body, y.Body) && same(x.Else, y.Else)
	})
}

// roomy returns a copy of nodes in which each list has more capacity than length, with other nodes behind its end.
func roomy(l []api.Node) []api.Node {
	room := make([]api.Node, 2*len(l)+9)
	for i := range room {
		room[i] = []api.Node{{Kind: api.Text, At: -i, S: "<"}, {Kind: api.Print, At: -i, Path: "bad"}, {Kind: api.Define, At: -i, S: "f"}}[i%3]
	}
	for i, n := range l {
		n.Body, n.Else = roomy(n.Body), roomy(n.Else)
		room[i] = n
	}
	return room[:len(l)]
}

// whole returns a copy of nodes with all that is behind them, up to the capacities of the lists.
func whole(l []api.Node) []api.Node {
	all := slices.Clone(l[:cap(l)])
	for i := range all {
		all[i].Body, all[i].Else = whole(all[i].Body), whole(all[i].Else)
	}
	return all
}

// TestNodesAreNotChanged has lists that are the same before and after calls, up to their capacities, and of which only what
// is within their lengths is rendered.
func TestNodesAreNotChanged(t *testing.T) { // rule 4
	for _, src := range []string{"", "a", varied, "x{{.x}}", "{{range .l}}{{.}}{{if .}}{{end}}{{end}}", "{{call f}}{{define f}}x{{call f}}{{end}}", "{{flush}}{{if .yes}}{{.s}}{{else}}{{.n}}{{end}}"} {
		l := roomy(compiled(t, src))
		before := whole(l)
		if isAs(t, src, l, sample(), "bad"); !same(whole(l), before) {
			t.Fatalf("the nodes of %q were changed", src)
		}
	}
	variedIs(t, roomy(compiled(t, varied)))
}

// roomyValue returns a copy of a value in which each slice has more capacity than length.
func roomyValue(v api.Value) api.Value {
	items := make([]api.Value, len(v.Items), 2*len(v.Items)+3)
	for i, item := range v.Items {
		items[i] = roomyValue(item)
	}
	fields := make([]api.Field, len(v.Fields), 2*len(v.Fields)+3)
	for i, f := range v.Fields {
		fields[i] = api.Field{Key: f.Key, Value: roomyValue(f.Value)}
	}
	v.Items, v.Fields = items, fields
	for range 3 {
		items, fields = append(items, of("behind")), append(fields, api.Field{Key: "behind", Value: of("behind")})
	}
	return v
}

// wholeValue returns a copy of a value with all that is behind its elements.
func wholeValue(v api.Value) api.Value {
	v.Items, v.Fields = slices.Clone(v.Items[:cap(v.Items)]), slices.Clone(v.Fields[:cap(v.Fields)])
	for i, item := range v.Items {
		v.Items[i] = wholeValue(item)
	}
	for i, f := range v.Fields {
		v.Fields[i].Value = wholeValue(f.Value)
	}
	return v
}

// TestScopeIsNotChanged has values in scopes that are the same before and after calls, up to their capacities.
func TestScopeIsNotChanged(t *testing.T) { // rule 4
	for _, v := range append(everyKind(), of(sample())) {
		v = roomyValue(v)
		before := wholeValue(v)
		for _, path := range append(notPaths(), "", "a", "a.b", "m", "m.a", "behind", "m.behind", "l", "ll") {
			for _, root := range []bool{false, true} {
				s := model.Scope{Root: root, Value: v}
				found, err := model.Resolve(s, provided(sample(), "bad"), path)
				if strings.Contains(path, "behind") && err == api.OK {
					t.Fatal(found)
				}
				if s.Root != root || !value.Equal(wholeValue(s.Value), before) {
					t.Fatalf("%v was changed by %q", v, path)
				}
			}
		}
	}
}

// TestProviderKeepsItsValues has a provider whose values are the same before and after calls, and after changes to what
// Resolve returned for the root.
func TestProviderKeepsItsValues(t *testing.T) { // rule 4
	p := provided(sample(), "bad")
	for range 3 {
		r := model.Render(compiled(t, varied), p)
		isResult(t, varied, r, resultOfVaried(), p, pullsOfVaried)
		for _, path := range []string{"m", "ll", "m.m", "l"} {
			v, err := model.Resolve(model.Scope{Root: true}, p, path)
			if err != api.OK {
				t.Fatal(path, err)
			}
			want, _ := value.Lookup(of(sample()), path)
			if !value.Equal(v, want) {
				t.Fatalf("%q: %v, want %v", path, v, want)
			}
			clear(v.Items[:cap(v.Items)])
			for i := range v.Fields {
				clear(v.Fields[i].Value.Fields)
				clear(v.Fields[i].Value.Items)
			}
			clear(v.Fields[:cap(v.Fields)])
		}
	}
}

// TestResultsAreIndependent changes the flush marks of results, up to their capacities.
func TestResultsAreIndependent(t *testing.T) { // rule 4
	l := compiled(t, varied)
	var earlier []model.Result
	for range 4 {
		earlier = append(earlier, model.Render(l, provided(sample(), "bad")))
	}
	for i, r := range earlier {
		if want := resultOfVaried(); r.Out != want.Out || !slices.Equal(r.Flush, want.Flush) {
			t.Fatal(i, r)
		}
		for j := range r.Flush[:cap(r.Flush)] {
			r.Flush[:cap(r.Flush)][j] = -1
		}
	}
	variedIs(t, l)
}

// TestNothingIsKept has calls with other arguments in between, failing ones too, and changes arguments between calls.
func TestNothingIsKept(t *testing.T) { // rules 4, 7 and 8
	l := compiled(t, varied)
	for range 3 {
		variedIs(t, l)
		fail(t, []failed{{"{{define f}}x{{.n}}{{call g}}{{end}}{{flush}}{{call f .m}}{{define g}}{{.bad}}{{end}}", "x7", []int{0}, 6, len("{{define f}}x{{.n}}{{call g}}{{end}}{{flush}}{{call f .m}}{{define g}}"), api.ErrMissing, "m"}})
		limited(t, "{{call f}}{{define f}}{{call f}}{{end}}", nil, model.Result{Steps: 1 + api.MaxDepth, At: 22, Err: api.ErrDepth}, "")
		limited(t, loop+"x", object{"l": many(api.MaxSteps - 1)}, model.Result{Steps: api.MaxSteps, At: 19, Err: api.ErrLimit}, "l")
		limited(t, "{{.l}}x", object{"l": strings.Repeat("l", api.MaxOutput)}, model.Result{Out: strings.Repeat("l", api.MaxOutput), Steps: 2, At: 6, Err: api.ErrLimit}, "l")
		isResult(t, varied, model.Render(l, nil), model.Result{Err: api.ErrNil}, nil, "")
	}
	p, q := provided(object{"a": 1}), provided(object{"a": "two"})
	for range 3 { // two providers in turn
		isResult(t, "{{.a}}", model.Render(compiled(t, "{{.a}}"), p), model.Result{Out: "1", Steps: 1}, p, "a")
		isResult(t, "{{.a}}", model.Render(compiled(t, "{{.a}}"), q), model.Result{Out: "two", Steps: 1}, q, "a")
	}
	clear(l[2].Body)
	clear(l)
	variedIs(t, compiled(t, varied))
}

// TestOneProvider has one provider for several templates: a name that has been pulled is not pulled again, and its result
// is the same.
func TestOneProvider(t *testing.T) { // P18.3
	p := provided(sample(), "bad")
	for _, c := range []struct {
		src   string
		want  model.Result
		pulls string
	}{
		{"{{.n}}{{.z}}", model.Result{Out: "-50", Steps: 2}, "n z"},
		{"{{.z}}{{.bad}}", model.Result{Out: "0", Steps: 2, At: 6, Err: api.ErrProvider}, "n z bad"},
		{"{{.bad}}", model.Result{Steps: 1, Err: api.ErrProvider}, "n z bad"},
		{"{{.x}}", model.Result{Steps: 1, Err: api.ErrMissing}, "n z bad x"},
		{"{{if .no}}{{.s}}{{end}}{{.n}}{{.x}}", model.Result{Out: "-5", Steps: 3, At: 29, Err: api.ErrMissing}, "n z bad x no"},
		{"", model.Result{}, "n z bad x no"},
	} {
		isResult(t, c.src, model.Render(compiled(t, c.src), p), c.want, p, c.pulls)
	}
}

// TestCallsAtATime calls the functions concurrently with the same nodes and values, and a provider of each goroutine.
func TestCallsAtATime(t *testing.T) { // rule 6
	l, s := compiled(t, varied), model.Scope{Value: of(sample())}
	var group sync.WaitGroup
	for range 8 {
		group.Go(func() {
			for range 100 {
				variedIs(t, l)
				var none *provider.Provider
				if v, err := model.Resolve(s, none, "m.m.s"); v.S != "mm" || err != api.OK {
					t.Error(v, err)
				}
			}
		})
	}
	group.Wait()
}
