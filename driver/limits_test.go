package driver_test

import (
	"math"
	"slices"
	"strings"
	"testing"

	"tmplpipe/api"
	"tmplpipe/driver"
)

// large are sizes about the limits.
func large() [][2]int {
	return [][2]int{{65536, 65536}, {65536, 65535}, {65535, 65536}, {65536, 1000}, {1000, 65536}, {77, 65535}}
}

// delivers checks the report of a template with large output, which ends with an error of the data or with OK.
func delivers(t *testing.T, src string, data object, want api.Errno, sizes ...[2]int) {
	t.Helper()
	for _, size := range sizes {
		c := driver.Config{Source: src, Fields: fields(data), Capacity: size[0], Most: size[1]}
		q := paired(t, c)
		if err := q.feed(t, accepting(300000)...); err != want || q.result.Err != want || q.d.report.Done != (want == api.OK) {
			t.Fatalf("%.100q, %d: %v, %v", src, size, err, q.result.Err)
		}
		equal(t, ran(t, c, accepting(300000)...), q.d.report)
	}
}

// TestMostOutput has as much output as there can be, and more.
func TestMostOutput(t *testing.T) { // P21.3 to P21.6
	part := object{"s": filler(65536), "t": "a", "e": ""}
	most := strings.Repeat("{{.s}}", 4)
	delivers(t, most, part, api.OK, large()...)
	delivers(t, most+"{{.e}}{{flush}}", part, api.OK, large()...)
	delivers(t, most+"{{.t}}", part, api.ErrLimit, large()...)
	delivers(t, most+"b", part, api.ErrLimit, large()...)
	delivers(t, "{{.t}}{{flush}}"+most, part, api.ErrLimit, large()...)
	delivers(t, "{{.s}}", object{"s": filler(api.MaxOutput)}, api.OK, large()...)
	delivers(t, "ab{{flush}}{{.s}}", object{"s": filler(api.MaxOutput)}, api.ErrLimit, large()...)
	delivers(t, "{{.s}}{{flush}}{{.s}}{{.s}}", object{"s": strings.Repeat("<", 25000)}, api.ErrLimit, large()...) // 4 bytes for each
	delivers(t, most, part, api.OK, [2]int{1, 65536}, [2]int{65536, 10})
}

// TestMostSteps has as many steps as there can be, and more.
func TestMostSteps(t *testing.T) { // P21.3 to P21.6
	for _, c := range []struct {
		items int
		err   api.Errno
	}{{6666, api.OK}, {6667, api.ErrLimit}} { // 3 steps for each item, and one for the loop
		data := object{"l": slices.Repeat(list{"x"}, c.items)}
		delivers(t, "{{range .l}}a{{.}}{{end}}", data, c.err, large()...)
		delivers(t, "{{range .l}}{{flush}}{{.}}{{end}}", data, c.err, large()[0], large()[5])
	}
	delivers(t, "{{range .l}}{{flush}}{{end}}", object{"l": slices.Repeat(list{1}, 9999)}, api.OK, large()[0])
	delivers(t, "{{range .l}}{{flush}}{{end}}", object{"l": slices.Repeat(list{1}, 10000)}, api.ErrLimit, large()[0])
}

// TestLargestSource has the longest template, and one with as many nodes as there can be.
func TestLargestSource(t *testing.T) { // P21.3, P21.4
	delivers(t, filler(api.MaxTemplate), object{}, api.OK, [2]int{65536, 65536}, [2]int{1000, 999})
	delivers(t, strings.Repeat("{{.s}}{{flush}}", api.MaxNodes/2), object{"s": "<"}, api.OK, [2]int{65536, 65536}, [2]int{3, 2})
}

// TestManyFeeds has a long body that is fed byte by byte, and a block that is not ended by many outcomes.
func TestManyFeeds(t *testing.T) { // P21.3, P21.6
	c := driver.Config{Source: "{{.s}}{{flush}}", Fields: fields(object{"s": filler(20000)}), Capacity: 500, Most: 400}
	whole, d, feeds := ran(t, c, accepting(100)...), opened(t, c), 0
	for err := api.ErrBlocked; err == api.ErrBlocked; feeds++ {
		err = d.Feed(1)
	}
	r := d.Report()
	if feeds != len(whole.Wire) || r.Calls != feeds || r.Actions-r.Calls != whole.Actions-whole.Calls || string(r.Wire) != string(whole.Wire) || !r.Done {
		t.Error(feeds, shown(r))
	}
	d = opened(t, c)
	for range 10000 {
		d.Feed(0, 0, 0)
	}
	if err := d.Feed(math.MaxInt, 0); err != api.ErrBlocked {
		t.Error(err)
	}
	if r := d.Report(); r.Calls != 30002 || len(r.Wire) != 407 || r.Actions != ran(t, c, math.MaxInt).Actions+30001 {
		t.Error(shown(r))
	}
}
