package model_test

import (
	"math"
	"regexp"
	"slices"
	"strings"
	"testing"

	"tmplpipe/api"
	"tmplpipe/model"
	"tmplpipe/provider"
	"tmplpipe/value"
)

// object is a map as a Go value, and list is a list.
type (
	object = map[string]any
	list   = []any
)

// of returns the value of a Go value.
func of(x any) api.Value {
	v, err := value.From(x)
	if err != api.OK {
		panic(err)
	}
	return v
}

// provided returns a new provider with the fields of data, which fails for some names.
func provided(data object, failing ...string) *provider.Provider {
	p, err := provider.New(of(data).Fields, failing)
	if err != api.OK {
		panic(err)
	}
	return p
}

// resolved is what Resolve is to return, with the names that it is to pull, separated by spaces.
type resolved struct {
	value api.Value
	err   api.Errno
	pulls string
}

// resolves checks what Resolve returns, and what it pulls.
func resolves(t *testing.T, s model.Scope, p *provider.Provider, path string, want resolved) {
	t.Helper()
	before := len(p.Pulls())
	v, err := model.Resolve(s, p, path)
	if !value.Equal(v, want.value) || err != want.err {
		t.Errorf("Resolve(%v, p, %q) = %v, %v, want %v, %v", s, path, v, err, want.value, want.err)
	}
	if pulls := strings.Join(p.Pulls()[before:], " "); pulls != want.pulls {
		t.Errorf("Resolve(%v, p, %q) pulls %q, want %q", s, path, pulls, want.pulls)
	}
}

// deep returns a map in which the path of that many names a leads to a string.
func deep(names int) object {
	m := object{"a": "end"}
	for range names - 1 {
		m = object{"a": m}
	}
	return m
}

func path(names int) string { return strings.Repeat("a.", names-1) + "a" }

// notPaths are strings that are no path, each for one reason.
func notPaths() []string {
	long := strings.Repeat("a", api.MaxName+1)
	l := []string{".", "..", ".a", "a.", "a..a", "a.b.", ".a.b", "a...b", " ", " a", "a ", "a. b", "a .b", "é", "aé", "a.é", "a\xff", "a.\x80", "\x00", "a\x00", "a/b", "{{.a}}", "a\n"}
	l = append(l, long, "a."+long, long+".a", "a."+long+".b", path(api.MaxPath+1), path(api.MaxPath+1)+".", path(100))
	for _, c := range "0_-9/:@[`{.$é" {
		l = append(l, string(c), "a."+string(c)+"a", string(c)+".a")
	}
	for _, c := range "-/:@[`{,$é" {
		l = append(l, "a"+string(c), "a.a"+string(c), "a"+string(c)+".a")
	}
	return l
}

// everyKind returns values of every kind, of kinds that there are not, and values that are not valid otherwise.
func everyKind() []api.Value {
	fields := of(object{"a": "x", "bad": int64(7), "m": object{"a": true, "b": list{"y"}}}).Fields
	items := of(list{object{"a": "z"}}).Items
	return []api.Value{
		{}, of("s"), of(0), of(math.MinInt), of(math.MaxInt), of(false), of(true), of(list{}), of(list{"a", 1, true, list{}}), of(object{}),
		{Kind: api.Map, Fields: fields}, of(deep(3)), of(deep(api.MaxPath)), of(deep(api.MaxPath + 1)),
		{Kind: -1, S: "a"}, {Kind: 5, Fields: fields}, {Kind: math.MaxInt, Fields: fields}, {Kind: math.MinInt, Items: items, Fields: fields},
		{Kind: api.Str, Fields: fields}, {Kind: api.List, Items: items, Fields: fields}, {Kind: api.Bool, B: true, Fields: fields}, {Kind: api.Int, N: 5, Fields: fields},
		{Kind: api.Map, S: "s", N: 1, B: true, Items: items, Fields: fields},
		{Kind: api.Map, Fields: []api.Field{{Key: "a", Value: of("first")}, {Key: "a", Value: of("second")}, {Key: "", Value: of("empty")}, {Key: "a.b", Value: of("path")}, {Key: ".", Value: of("period")}}},
		{Kind: api.Map, Fields: []api.Field{{Key: "a", Value: api.Value{Kind: 9, Fields: fields}}, {Key: "m", Value: api.Value{Kind: api.Map, Fields: []api.Field{{Key: "a", Value: api.Value{Kind: -5, B: true}}}}}}},
	}
}

func TestResolveInTheRoot(t *testing.T) { // P18.1
	data := object{"a": "x", "n": 5, "t": true, "l": list{1, "y"}, "none": list{}, "m": object{"a": object{"b": "z", "c": list{}}, "l": "l"}, "bad": object{"a": 1}}
	for path, want := range map[string]resolved{
		"":        {err: api.ErrType},
		"a":       {value: of("x"), pulls: "a"},
		"n":       {value: of(5), pulls: "n"},
		"t":       {value: of(true), pulls: "t"},
		"l":       {value: of(list{1, "y"}), pulls: "l"},
		"none":    {value: of(list{}), pulls: "none"},
		"m":       {value: of(data["m"]), pulls: "m"},
		"m.a":     {value: of(object{"b": "z", "c": list{}}), pulls: "m"},
		"m.l":     {value: of("l"), pulls: "m"},
		"m.a.b":   {value: of("z"), pulls: "m"},
		"m.a.c":   {value: of(list{}), pulls: "m"},
		"x":       {err: api.ErrMissing, pulls: "x"},
		"x.a.b":   {err: api.ErrMissing, pulls: "x"},
		"A":       {err: api.ErrMissing, pulls: "A"},
		"bad":     {err: api.ErrProvider, pulls: "bad"},
		"bad.a":   {err: api.ErrProvider, pulls: "bad"},
		"gone":    {err: api.ErrProvider, pulls: "gone"},
		"m.x":     {err: api.ErrMissing, pulls: "m"},
		"m.bad":   {err: api.ErrMissing, pulls: "m"},
		"m.x.y":   {err: api.ErrMissing, pulls: "m"},
		"m.a.x":   {err: api.ErrMissing, pulls: "m"},
		"a.a":     {err: api.ErrType, pulls: "a"},
		"n.a":     {err: api.ErrType, pulls: "n"},
		"t.a":     {err: api.ErrType, pulls: "t"},
		"l.a":     {err: api.ErrType, pulls: "l"},
		"m.l.l":   {err: api.ErrType, pulls: "m"},
		"m.a.b.c": {err: api.ErrType, pulls: "m"},
		"bad.":    {err: api.ErrName},
		"x..a":    {err: api.ErrName},
	} {
		for _, v := range everyKind() { // is ignored in the root
			resolves(t, model.Scope{Root: true, Value: v}, provided(data, "bad", "gone"), path, want)
		}
	}
}

func TestResolveInAValue(t *testing.T) { // P18.1
	v := of(object{"a": "x", "m": object{"a": object{"b": list{true}}, "n": -5}, "bad": 1})
	for path, want := range map[string]resolved{
		"":        {value: v},
		"a":       {value: of("x")},
		"m.a":     {value: of(object{"b": list{true}})},
		"m.a.b":   {value: of(list{true})},
		"m.n":     {value: of(-5)},
		"bad":     {value: of(1)},
		"b":       {err: api.ErrMissing},
		"b.a":     {err: api.ErrMissing},
		"m.b":     {err: api.ErrMissing},
		"m.a.a":   {err: api.ErrMissing},
		"a.a":     {err: api.ErrType},
		"m.a.b.c": {err: api.ErrType},
		"a..a":    {err: api.ErrName},
		"b.":      {err: api.ErrName},
	} {
		for _, p := range []*provider.Provider{nil, provided(nil), provided(object{"a": 1, "b": 2, "m": 3}), provided(object{"b": object{"a": 5}}, "a", "m", "bad")} {
			resolves(t, model.Scope{Value: v}, p, path, want)
		}
	}
}

// TestResolveTheEmptyPath has values of every kind, also such as are not valid.
func TestResolveTheEmptyPath(t *testing.T) { // P18.1
	for _, v := range everyKind() {
		for _, p := range []*provider.Provider{nil, provided(deep(1))} {
			resolves(t, model.Scope{Value: v}, p, "", resolved{value: v})
			resolves(t, model.Scope{Root: true, Value: v}, p, "", resolved{err: api.ErrType})
		}
	}
}

// TestResolveNoPath has strings that are no path, in the root and in values of every kind: they are refused before anything
// is looked up or pulled.
func TestResolveNoPath(t *testing.T) { // P18.1
	for _, s := range notPaths() {
		for _, v := range everyKind() {
			for _, root := range []bool{false, true} {
				for _, p := range []*provider.Provider{nil, provided(nil), provided(deep(4)), provided(nil, "a")} {
					resolves(t, model.Scope{Root: root, Value: v}, p, s, resolved{err: api.ErrName})
				}
			}
		}
	}
}

// TestResolveLongPaths has paths of as many names, and names of as many bytes, as there can be.
func TestResolveLongPaths(t *testing.T) { // P18.1
	for n := 1; n <= api.MaxPath; n++ {
		data := deep(api.MaxPath + 1)
		rest := of(deep(api.MaxPath + 1 - n))
		resolves(t, model.Scope{Root: true}, provided(data), path(n), resolved{value: rest, pulls: "a"})
		resolves(t, model.Scope{Value: of(data)}, nil, path(n), resolved{value: rest})
		resolves(t, model.Scope{Root: true}, provided(deep(n)), path(n), resolved{value: of("end"), pulls: "a"})
		resolves(t, model.Scope{Value: of(deep(n))}, nil, path(n), resolved{value: of("end")})
	}
	long := strings.Repeat("Z", api.MaxName)
	data := object{long: object{long: 5}}
	resolves(t, model.Scope{Root: true}, provided(data), long+"."+long, resolved{value: of(5), pulls: long})
	resolves(t, model.Scope{Value: of(data)}, nil, long+"."+long, resolved{value: of(5)})
	resolves(t, model.Scope{Root: true}, provided(data), long[1:]+"."+long, resolved{err: api.ErrMissing, pulls: long[1:]})
}

// TestResolveWithNoProvider has the nil provider, which knows no name.
func TestResolveWithNoProvider(t *testing.T) { // P18.1
	for path, want := range map[string]api.Errno{"a": api.ErrNil, "a.b": api.ErrNil, "": api.ErrType, "a.": api.ErrName, ".": api.ErrName} {
		for _, v := range everyKind() {
			resolves(t, model.Scope{Root: true, Value: v}, nil, path, resolved{err: want})
		}
	}
}

// isPath says what a path is as chapter 9 does.
var isPath = regexp.MustCompile(`\A([A-Za-z][A-Za-z0-9_]{0,31}(\.[A-Za-z][A-Za-z0-9_]{0,31}){0,7})?\z`)

// walked is the value at names in a value, as the chapters say it.
func walked(v api.Value, names []string) resolved {
	for _, name := range names {
		if v.Kind != api.Map {
			return resolved{err: api.ErrType}
		}
		fields := v.Fields
		for len(fields) > 0 && fields[0].Key != name {
			fields = fields[1:]
		}
		if len(fields) == 0 {
			return resolved{err: api.ErrMissing}
		}
		v = fields[0].Value
	}
	return resolved{value: v}
}

// describedResolve is what Resolve is to return, as the chapter says it.
func describedResolve(s model.Scope, data object, failing []string, path string) resolved {
	if !isPath.MatchString(path) {
		return resolved{err: api.ErrName}
	}
	var names []string
	if path != "" {
		names = strings.Split(path, ".")
	}
	if !s.Root {
		return walked(s.Value, names)
	}
	if len(names) == 0 {
		return resolved{err: api.ErrType}
	}
	r := resolved{err: api.ErrMissing}
	if slices.Contains(failing, names[0]) {
		r = resolved{err: api.ErrProvider}
	} else if x, ok := data[names[0]]; ok {
		r = walked(of(x), names[1:])
	}
	r.pulls = names[0]
	return r
}

// TestResolveEverything has all paths of up to four names of five, and others, in all scopes.
func TestResolveEverything(t *testing.T) { // P18.1
	paths := append(notPaths(), "", path(api.MaxPath), path(api.MaxPath-1))
	var more func(path string, left int)
	more = func(path string, left int) {
		for _, name := range []string{"a", "b", "m", "bad", "x_1"} {
			paths = append(paths, path+name)
			if left > 0 {
				more(path+name+".", left-1)
			}
		}
	}
	more("", 3)
	data := object{"a": deep(api.MaxPath - 1), "b": "s", "m": object{"a": object{"b": list{}, "m": 1, "bad": object{"x_1": true}}, "b": 5}, "bad": "never"}
	count := map[api.Errno]int{}
	for _, failing := range [][]string{nil, {"bad"}, {"x_1", "a"}} {
		for _, v := range everyKind() {
			for _, root := range []bool{false, true} {
				for _, path := range paths {
					s := model.Scope{Root: root, Value: v}
					want := describedResolve(s, data, failing, path)
					resolves(t, s, provided(data, failing...), path, want)
					count[want.err]++
				}
			}
		}
	}
	for _, err := range []api.Errno{api.OK, api.ErrName, api.ErrType, api.ErrMissing, api.ErrProvider} {
		if count[err] < 100 {
			t.Error(err, count[err])
		}
	}
}

// TestResolveAgain has one provider for several calls: each name is pulled once, whatever its call returned.
func TestResolveAgain(t *testing.T) { // P18.1, P18.3
	p := provided(object{"a": object{"b": 5}, "c": "x"}, "bad")
	for _, pulls := range []string{"a", ""} {
		resolves(t, model.Scope{Root: true}, p, "a.b", resolved{value: of(5), pulls: pulls})
		resolves(t, model.Scope{Root: true}, p, "a", resolved{value: of(object{"b": 5})})
		resolves(t, model.Scope{Root: true}, p, "a.c", resolved{err: api.ErrMissing})
		resolves(t, model.Scope{Root: true}, p, "a.b.c", resolved{err: api.ErrType})
	}
	for _, again := range []bool{false, true} {
		pulls := [2]string{"bad", "gone"}
		if again {
			pulls = [2]string{}
		}
		resolves(t, model.Scope{Root: true}, p, "bad.a", resolved{err: api.ErrProvider, pulls: pulls[0]})
		resolves(t, model.Scope{Root: true}, p, "gone", resolved{err: api.ErrMissing, pulls: pulls[1]})
	}
	if pulls := p.Pulls(); !slices.Equal(pulls, []string{"a", "bad", "gone"}) {
		t.Error(pulls)
	}
}
