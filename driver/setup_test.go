package driver_test

import (
	"bytes"
	"fmt"
	"math"
	"slices"
	"strings"
	"testing"

	"tmplpipe/api"
	"tmplpipe/driver"
	"tmplpipe/model"
	"tmplpipe/parse"
	"tmplpipe/provider"
	"tmplpipe/value"
)

// object is a map as a Go value, and list is a list.
type (
	object = map[string]any
	list   = []any
)

// fields returns data as the fields of a provider.
func fields(data object) []api.Field {
	v, err := value.From(data)
	if err != api.OK {
		panic(err)
	}
	return v.Fields
}

// sample is the data of most tests.
func sample() []api.Field {
	return fields(object{
		"s": "<x>", "e": "", "n": -5, "yes": true, "no": false,
		"l": list{"a", "b", "c"}, "none": list{}, "ll": list{list{"1", "2"}, list{}, list{"3"}}, "m": object{"s": "m&", "l": list{1, 2}},
	})
}

// config is a configuration with the sample, and with the failing name bad.
func config(src string, capacity, most int) driver.Config {
	return driver.Config{Source: src, Fields: sample(), Fail: []string{"bad"}, Capacity: capacity, Most: most}
}

// opened returns a new driver for a configuration that is accepted.
func opened(t *testing.T, c driver.Config) *driver.Driver {
	t.Helper()
	d, at, err := driver.New(c)
	if d == nil || at != 0 || err != api.OK {
		t.Fatalf("New(%.300q, %d, %d) = %v, %d, %v", c.Source, c.Capacity, c.Most, d, at, err)
	}
	return d
}

// ran returns the report of Run for a configuration that is accepted.
func ran(t *testing.T, c driver.Config, schedule ...int) driver.Report {
	t.Helper()
	r, at, err := driver.Run(c, schedule...)
	if at != 0 || err != api.OK {
		t.Fatalf("Run(%.300q, %d, %d) = %d, %v", c.Source, c.Capacity, c.Most, at, err)
	}
	return r
}

// rendered returns what the template of a configuration outputs, and the names that are pulled.
func rendered(t *testing.T, c driver.Config) (model.Result, []string) {
	t.Helper()
	l, at, err := parse.Parse(c.Source)
	if err != api.OK {
		t.Fatalf("%.300q is not accepted: %d, %v", c.Source, at, err)
	}
	p, err := provider.New(c.Fields, c.Fail)
	if err != api.OK {
		t.Fatal(err)
	}
	return model.Render(l, p), p.Pulls()
}

// body is what is delivered of the output of a template in chunks of at most most bytes: what is between flush marks is in
// chunks of its own, and the last chunk is there only if the template succeeds.
func body(r model.Result, most int) string {
	var b strings.Builder
	from := 0
	for _, mark := range append(slices.Clone(r.Flush), len(r.Out)) {
		for chunk := range slices.Chunk([]byte(r.Out[from:mark]), most) {
			fmt.Fprintf(&b, "%x\r\n%s\r\n", len(chunk), chunk)
		}
		from = mark
	}
	if r.Err == api.OK {
		b.WriteString("0\r\n\r\n")
	}
	return b.String()
}

// accepting is a schedule of some outcomes that accept everything.
func accepting(outcomes int) []int { return slices.Repeat([]int{math.MaxInt}, outcomes) }

// ones is a schedule of some outcomes that accept a byte each.
func ones(outcomes int) []int { return slices.Repeat([]int{1}, outcomes) }

// same reports whether two reports are equal.
func same(a, b driver.Report) bool {
	return bytes.Equal(a.Wire, b.Wire) && slices.Equal(a.Pulls, b.Pulls) && a.Done == b.Done && a.Err == b.Err && numbersOf(a) == numbersOf(b)
}

func numbersOf(r driver.Report) [5]int {
	return [5]int{r.Actions, r.Calls, r.Steps, r.Chunks, r.Flushes}
}

// shown is a report as text. A bar in the delivered bytes is the end of a line.
func shown(r driver.Report) string {
	s := r.Err.Error()
	if r.Done {
		s = "done " + s
	}
	s += fmt.Sprintf(", %d actions %d calls %d steps %d chunks %d flushes", r.Actions, r.Calls, r.Steps, r.Chunks, r.Flushes)
	if len(r.Pulls) > 0 {
		s += " " + strings.Join(r.Pulls, " ")
	}
	return s + fmt.Sprintf(" %.500q", strings.ReplaceAll(string(r.Wire), "\r\n", "|"))
}

// equal checks a report.
func equal(t *testing.T, got, want driver.Report) {
	t.Helper()
	if !same(got, want) {
		t.Fatalf("%s, want %s", shown(got), shown(want))
	}
}

// zero reports whether a report has no field that is not zero.
func zero(r driver.Report) bool { return same(r, driver.Report{}) }

// filler is a string of that many bytes.
func filler(bytes int) string { return strings.Repeat("abc", bytes/3) + "abc"[:bytes%3] }

// several has text, interpolations, flushes, a loop and calls. With the sample, it succeeds.
const several = `ab{{.s}}{{flush}}{{range .l}}{{.}}{{flush}}x{{end}}{{call f .m}}{{flush}}{{flush}}<p>{{.n}}{{define f}}{{flush}}{{.s}}{{range .l}}{{.}}{{end}}{{end}}`

// partial fails at its end, behind the output of several.
const partial = several + `{{.x}}y`

// sizesOfSeveral are capacities of ring buffers and of chunks.
func sizesOfSeveral() [][2]int { return [][2]int{{1, 1}, {3, 2}, {2, 9}, {9, 4}, {100, 3}, {100, 100}} }
