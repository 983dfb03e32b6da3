package driver_test

import (
	"math"
	"slices"
	"strconv"
	"strings"
	"testing"

	"tmplpipe/api"
	"tmplpipe/compile"
	"tmplpipe/driver"
	"tmplpipe/provider"
)

// refused checks that a configuration is refused for a position: by Check, New and Run, again and again.
func refused(t *testing.T, c driver.Config, wantAt int, want api.Errno) {
	t.Helper()
	for range 2 {
		if at, err := driver.Check(c); at != wantAt || err != want {
			t.Fatalf("Check(%.100q, %d, %d) = %d, %v, want %d, %v", c.Source, c.Capacity, c.Most, at, err, wantAt, want)
		}
		if d, at, err := driver.New(c); d != nil || at != wantAt || err != want {
			t.Fatalf("New(%.100q, %d, %d) = %v, %d, %v, want %d, %v", c.Source, c.Capacity, c.Most, d, at, err, wantAt, want)
		}
		for _, schedule := range [][]int{nil, {-1}, {0}, accepting(9)} {
			if r, at, err := driver.Run(c, schedule...); !zero(r) || at != wantAt || err != want {
				t.Fatalf("Run(%.100q, %d, %d) = %s, %d, %v, want %d, %v", c.Source, c.Capacity, c.Most, shown(r), at, err, wantAt, want)
			}
		}
	}
}

// accepted checks that a configuration is accepted by Check, New and Run, and that nothing has happened with a new driver.
func accepted(t *testing.T, c driver.Config) {
	t.Helper()
	if at, err := driver.Check(c); at != 0 || err != api.OK {
		t.Fatalf("Check(%.100q, %d, %d) = %d, %v", c.Source, c.Capacity, c.Most, at, err)
	}
	if r := opened(t, c).Report(); !zero(r) {
		t.Fatalf("New(%.100q, %d, %d): %s", c.Source, c.Capacity, c.Most, shown(r))
	}
	ran(t, c)
}

// faulty is a source that does not compile, with what Compile returns.
type faulty struct {
	src string
	at  int
	err api.Errno
}

// faults has each error of the lexer, the parser, the definitions and the analysis, at the start and behind it.
func faults() []faulty {
	var definitions strings.Builder
	for i := range api.MaxDefines + 1 {
		definitions.WriteString("{{define d" + strconv.Itoa(100+i) + "}}{{end}}")
	}
	return []faulty{
		{strings.Repeat("a", api.MaxTemplate+1), 0, api.ErrTooLong},
		{"{{.x", 0, api.ErrTruncated}, {"ab{{.x} }", 2, api.ErrTruncated}, {"{{.x}}{{", 6, api.ErrTruncated},
		{"{{if}}", 0, api.ErrSyntax}, {"a{{x}}", 1, api.ErrSyntax}, {"{{flush}}{{}}", 9, api.ErrSyntax}, {"{{if .yes .no}}{{end}}", 0, api.ErrSyntax},
		{"{{.x.}}", 0, api.ErrName}, {"abc{{if .1}}{{end}}", 3, api.ErrName}, {"{{define f-}}{{end}}", 0, api.ErrName}, {"{{.a.b.c.d.e.f.g.h.i}}", 0, api.ErrName},
		{"{{end}}", 0, api.ErrNesting}, {"x{{end}}", 1, api.ErrNesting}, {"{{else}}", 0, api.ErrNesting}, {"{{range .l}}{{else}}{{end}}", 12, api.ErrNesting},
		{"{{if .yes}}{{else}}{{else}}{{end}}", 19, api.ErrNesting}, {"{{if .yes}}{{define f}}{{end}}{{end}}", 11, api.ErrNesting},
		{strings.Repeat("{{if .yes}}", 33) + strings.Repeat("{{end}}", 33), 32 * 11, api.ErrNesting},
		{strings.Repeat("{{flush}}", api.MaxNodes+1), 9 * api.MaxNodes, api.ErrLimit},
		{"{{if .yes}}", 0, api.ErrTruncated}, {"x{{range .l}}y{{if .yes}}{{else}}", 14, api.ErrTruncated}, {"{{define f}}x", 0, api.ErrTruncated},
		{"{{define f}}{{end}}x{{define f}}{{end}}", 20, api.ErrDuplicate}, {definitions.String(), 22 * api.MaxDefines, api.ErrLimit},
		{"{{call f}}", 0, api.ErrName}, {"a{{if .yes}}{{call g}}{{end}}{{define f}}{{end}}", 12, api.ErrName},
		{"<{{.s}}", 1, api.ErrContext}, {"<a {{.s}}>", 3, api.ErrContext}, {"<!--{{.s}}-->", 4, api.ErrContext}, {`<p title="{{call f}}">{{define f}}{{end}}`, 10, api.ErrContext},
		{"{{if .yes}}<b {{end}}x", 0, api.ErrJoin}, {"a{{range .l}}<b>'<i{{end}}", 1, api.ErrJoin}, {"ab{{define f}}<{{end}}", 2, api.ErrJoin}, {"a{{flush}}<b", 10, api.ErrJoin}, {"<script>", 0, api.ErrJoin},
	}
}

// TestCheckCompiles has faulty templates, whose errors come before all others.
func TestCheckCompiles(t *testing.T) { // P21.1, P21.2, P21.5, P21.6
	for _, f := range faults() {
		if _, at, err := compile.Compile(f.src); at != f.at || err != f.err {
			t.Fatalf("Compile(%.100q) = %d, %v, want %d, %v", f.src, at, err, f.at, f.err)
		}
		for _, fail := range [][]string{nil, {"bad"}, {""}} {
			for _, size := range [][2]int{{1, 1}, {api.MaxRing, api.MaxChunk}, {0, 1}, {1, -1}, {math.MinInt, math.MaxInt}} {
				refused(t, driver.Config{Source: f.src, Fail: fail, Capacity: size[0], Most: size[1]}, f.at, f.err)
				refused(t, driver.Config{Source: f.src, Fields: []api.Field{{Key: "?"}}, Fail: fail, Capacity: size[0], Most: size[1]}, f.at, f.err)
			}
		}
	}
}

// TestCheckAcceptsTemplates has templates that are just not faulty.
func TestCheckAcceptsTemplates(t *testing.T) { // P21.1, P21.2
	for _, src := range []string{
		"", "a", several, partial, "}}", "{ {.x}}", "{{.}}", "{{.bad}}", "{{call f}}{{define f}}{{call f}}{{end}}", "{{define f}}{{end}}",
		strings.Repeat("a", api.MaxTemplate), strings.Repeat("{{flush}}", api.MaxNodes), strings.Repeat("{{if .yes}}", 32) + strings.Repeat("{{end}}", 32),
	} {
		accepted(t, config(src, 1, 1))
		accepted(t, driver.Config{Source: src, Capacity: api.MaxRing, Most: api.MaxChunk})
	}
}

// nested is a list at that depth of nesting.
func nested(depth int) api.Value {
	v := api.Value{Kind: api.List}
	for range depth - 1 {
		v = api.Value{Kind: api.List, Items: []api.Value{v}}
	}
	return v
}

// unfit is what a provider refuses.
type unfit struct {
	fields []api.Field
	fail   []string
	err    api.Errno
}

// unfits has each error of a provider, of a field and of one behind it. Some have several, of which the first one counts.
func unfits() []unfit {
	right, name := api.Field{Key: "a"}, []string{"b"}
	return []unfit{
		{[]api.Field{right, {Key: "b", Value: nested(32)}}, name, api.ErrNesting},
		{[]api.Field{{Key: "b", Value: api.Value{Kind: 5}}}, nil, api.ErrType},
		{[]api.Field{right, {Key: "b", Value: api.Value{Kind: api.List, Items: []api.Value{{}, {Kind: -1}}}}}, name, api.ErrType},
		{[]api.Field{{Key: "b", Value: api.Value{Kind: api.Str, N: 1}}}, nil, api.ErrArg},
		{[]api.Field{{Key: "b", Value: api.Value{Kind: api.Map, Fields: []api.Field{{Key: "c", Value: api.Value{Kind: api.Int, S: "1"}}}}}}, nil, api.ErrArg},
		{[]api.Field{{Key: ""}}, nil, api.ErrName}, {[]api.Field{right, {Key: "1"}}, name, api.ErrName},
		{[]api.Field{{Key: "b", Value: api.Value{Kind: api.Map, Fields: []api.Field{{Key: "c.d"}}}}}, nil, api.ErrName},
		{[]api.Field{right, {Key: "b"}, right}, nil, api.ErrDuplicate},
		{nil, []string{""}, api.ErrName}, {[]api.Field{right}, []string{"b", "c", "d."}, api.ErrName}, {nil, []string{strings.Repeat("n", api.MaxName+1)}, api.ErrName},
		{[]api.Field{right, right}, []string{"?"}, api.ErrDuplicate}, {[]api.Field{{Key: "b", Value: api.Value{Kind: 9, N: 1}}, {Key: "?"}}, []string{"?"}, api.ErrType},
	}
}

// TestCheckProvides has fields and failing names that are refused, whose errors come before those of sizes.
func TestCheckProvides(t *testing.T) { // P21.1, P21.2, P21.5
	for i, u := range unfits() {
		if _, err := provider.New(u.fields, u.fail); err != u.err {
			t.Fatal(i, err)
		}
		for _, src := range []string{"", "a", several, "{{.b}}"} {
			for _, size := range [][2]int{{1, 1}, {api.MaxRing, api.MaxChunk}, {0, 1}, {1, 0}, {-1, api.MaxChunk + 1}, {math.MaxInt, math.MinInt}} {
				refused(t, driver.Config{Source: src, Fields: u.fields, Fail: u.fail, Capacity: size[0], Most: size[1]}, 0, u.err)
			}
		}
	}
}

// TestCheckAcceptsData has fields and failing names that are just not refused.
func TestCheckAcceptsData(t *testing.T) { // P21.1, P21.2
	for _, c := range []driver.Config{
		{Fields: []api.Field{{Key: "a", Value: nested(31)}}},
		{Fields: []api.Field{{Key: strings.Repeat("n", api.MaxName)}, {Key: "a"}, {Key: "A"}}, Fail: []string{strings.Repeat("n", api.MaxName), "a", "a"}},
		{Fields: []api.Field{}, Fail: []string{}},
		{Fail: []string{"bad", "worse"}},
	} {
		c.Source, c.Capacity, c.Most = "x{{.a}}", 2, 3
		accepted(t, c)
	}
}

// TestCheckSizes has each size at its limits, and far beyond.
func TestCheckSizes(t *testing.T) { // P21.1, P21.2, P21.5
	wrong := []int{math.MinInt, math.MinInt + 1, -65536, -1, 0, 65537, 65538, 131072, 1 << 32, math.MaxInt}
	right := []int{1, 2, 3, 100, 4096, 65535, 65536}
	for _, src := range []string{"", "a{{.s}}", "{{.x}}"} {
		for _, a := range wrong {
			for _, b := range right {
				refused(t, config(src, a, b), 0, api.ErrRange)
				refused(t, config(src, b, a), 0, api.ErrRange)
			}
			for _, b := range wrong {
				refused(t, config(src, a, b), 0, api.ErrRange)
			}
		}
		for _, a := range right {
			for _, b := range right {
				accepted(t, config(src, a, b))
			}
		}
	}
	refused(t, driver.Config{}, 0, api.ErrRange)
}

// TestArguments checks that no function changes what it is given.
func TestArguments(t *testing.T) { // rule 4
	for _, src := range []string{several, partial, "{{.bad}}", "{{if .yes}}"} {
		c, schedule := config(src, 3, 2), []int{1, 0, 5, 9, 99, 0, -1, 7}
		beyond := schedule[:4]
		driver.Check(c)
		driver.New(c)
		driver.Run(c, beyond...)
		if d, _, err := driver.New(c); err == api.OK {
			d.Feed(beyond...)
			d.Feed(beyond[:2]...)
			d.Report()
		}
		if !slices.Equal(schedule, []int{1, 0, 5, 9, 99, 0, -1, 7}) || !slices.Equal(c.Fail, []string{"bad"}) || c.Source != src {
			t.Error(schedule, c.Fail)
		}
		if want := config(src, 3, 2); !slices.EqualFunc(c.Fields, want.Fields, equalFields) {
			t.Error(c.Fields)
		}
	}
}
