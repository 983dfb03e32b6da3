package driver_test

import (
	"math"
	"slices"
	"testing"

	"tmplpipe/api"
	"tmplpipe/driver"
)

// TestExample has the example of the chapter.
func TestExample(t *testing.T) { // P21.3 to P21.5
	c := driver.Config{Source: "a{{.x}}", Fields: []api.Field{{Key: "x", Value: api.Value{Kind: api.Str, S: "<"}}}, Capacity: 2, Most: 2}
	r, at, err := driver.Run(c, 9, 9)
	if at != 0 || err != api.OK || shown(r) != `error 10, 12 actions 2 calls 2 steps 3 chunks 0 flushes x "2|a&|2|lt|"` {
		t.Error(shown(r), at, err)
	}
	d := opened(t, c)
	d.Feed(9, 9)
	if err := d.Feed(9, 9); err != api.OK || shown(d.Report()) != `done error 0, 15 actions 4 calls 2 steps 3 chunks 0 flushes x "2|a&|2|lt|1|;|0||"` {
		t.Error(err, shown(d.Report()))
	}
}

// TestRun has the reports of one Feed, written down, and each beginning of the schedules of the courses.
func TestRun(t *testing.T) { // P21.5, P21.6
	for _, c := range courses() {
		var all []int
		for i, schedule := range c.feeds {
			all = append(all, schedule...)
			if r := ran(t, config(c.src, c.capacity, c.most), all...); shown(r) != c.reports[i] {
				t.Errorf("%s, %d: %s, want %s", c.src, all, shown(r), c.reports[i])
			}
		}
		for n := range all {
			d := opened(t, config(c.src, c.capacity, c.most))
			d.Feed(all[:n]...)
			equal(t, ran(t, config(c.src, c.capacity, c.most), all[:n]...), d.Report())
		}
	}
}

// TestRunReturnsNoError has each error of Feed, which is in the report only.
func TestRunReturnsNoError(t *testing.T) { // P21.5
	for _, c := range []struct {
		src      string
		schedule []int
		err      api.Errno
	}{
		{"a", nil, api.ErrBlocked}, {"a", []int{0, 3}, api.ErrBlocked}, {"a", []int{3, -1}, api.ErrWrite}, {"a", []int{math.MinInt}, api.ErrWrite},
		{"a{{.x}}", accepting(1), api.ErrMissing}, {"a{{.m.x}}", accepting(1), api.ErrMissing}, {"a{{.bad}}", accepting(1), api.ErrProvider}, {"a{{.m}}", accepting(1), api.ErrType},
		{"a{{.}}", accepting(1), api.ErrType}, {"a{{if .n}}{{end}}", accepting(1), api.ErrType}, {"a{{range .m}}{{end}}", accepting(1), api.ErrType}, {"a{{.s.t}}", accepting(1), api.ErrType},
		{"a{{call f}}{{define f}}{{call f}}{{end}}", accepting(1), api.ErrDepth}, {"a", accepting(2), api.OK},
	} {
		r, at, err := driver.Run(config(c.src, 9, 9), c.schedule...)
		if at != 0 || err != api.OK || r.Err != c.err || r.Done != (c.err == api.OK) {
			t.Errorf("%s, %d: %s, %d, %v", c.src, c.schedule, shown(r), at, err)
		}
		want := "1\r\na\r\n"
		if r.Err != api.ErrBlocked && r.Err != api.ErrWrite && string(r.Wire[:6]) != want || r.Err == c.err && c.err != api.OK && len(r.Wire) > 6 {
			t.Errorf("%s, %d: %s", c.src, c.schedule, shown(r))
		}
	}
}

// TestPositions has errors of the data behind some text: their positions are not those of the template.
func TestPositions(t *testing.T) { // P21.2, P21.5
	for _, src := range []string{"abc{{.x}}", "abc{{flush}}{{.bad}}", partial} {
		if d, at, err := driver.New(config(src, 4, 4)); d == nil || at != 0 || err != api.OK {
			t.Error(src, at, err)
		}
		if r, at, err := driver.Run(config(src, 4, 4), accepting(500)...); at != 0 || err != api.OK || r.Err == api.OK {
			t.Error(src, shown(r), at, err)
		}
	}
}

// TestParts feeds schedules that are cut at each place into two parts, and into parts of each size.
func TestParts(t *testing.T) { // P21.6
	for i, schedule := range [][]int{
		accepting(40), slices.Repeat([]int{0, 3, 1}, 80), slices.Repeat([]int{9, 0, 4}, 30), append(ones(100), -1, 5), append(slices.Repeat([]int{1, 40}, 8), -1), append(accepting(4), -1, -1, 3), {0, 0, 0}, {-1}, {},
	} {
		for _, src := range []string{several, partial, "", "{{.x}}"} {
			size := sizesOfSeveral()[i%6]
			c := config(src, size[0], size[1])
			whole := ran(t, c, schedule...)
			for cut := range len(schedule) + 1 {
				d := opened(t, c)
				first := d.Feed(schedule[:cut]...)
				equal(t, ran(t, c, schedule[:cut]...), d.Report())
				if err := d.Feed(schedule[cut:]...); err != whole.Err || first != api.ErrBlocked && first != err {
					t.Fatal(first, err, shown(whole))
				}
				equal(t, d.Report(), whole)
			}
			for size := 1; size < 9; size++ {
				d := opened(t, c)
				d.Feed()
				for part := range slices.Chunk(schedule, size) {
					d.Feed(part...)
				}
				equal(t, d.Report(), whole)
			}
		}
	}
}

// TestAsManyOutcomesAsBytes has positive outcomes, as many as the body has bytes, and fewer.
func TestAsManyOutcomesAsBytes(t *testing.T) { // P21.6
	n := numbers(5)
	for _, src := range []string{"", "a", several, partial, several + "{{flush}}", several + "{{.bad}}", "{{.x}}"} {
		for _, size := range sizesOfSeveral() {
			c := config(src, size[0], size[1])
			result, _ := rendered(t, c)
			delivered := body(result, min(size[0], size[1]))
			for bytes := range len(delivered) {
				if r := ran(t, c, ones(bytes)...); r.Err != api.ErrBlocked || r.Calls != bytes || string(r.Wire) != delivered[:bytes] {
					t.Fatalf("%d: %s", bytes, shown(r))
				}
			}
			for range 30 {
				schedule := ones(len(delivered))
				for i := range schedule {
					schedule[i] += n.below(3) * n.below(40)
				}
				r := ran(t, c, schedule...)
				if string(r.Wire) != delivered || r.Err != result.Err || r.Done != (result.Err == api.OK) || r.Calls > len(delivered) {
					t.Fatalf("%d: %s", schedule, shown(r))
				}
			}
		}
	}
}

// TestBytesDoNotDependOnTheSchedule has one template and many schedules, whose reports differ in writes only.
func TestBytesDoNotDependOnTheSchedule(t *testing.T) { // P21.6
	n := numbers(6)
	for _, src := range []string{several, partial} {
		for _, size := range sizesOfSeveral() {
			c := config(src, size[0], size[1])
			whole := ran(t, c, accepting(500)...)
			for range 50 {
				d := opened(t, c)
				for d.Feed(append(n.schedule(math.MaxInt), 1)...) == api.ErrBlocked {
				}
				r := d.Report()
				if r.Actions-r.Calls != whole.Actions-whole.Calls {
					t.Fatalf("%s, want %s", shown(r), shown(whole))
				}
				r.Actions, r.Calls = whole.Actions, whole.Calls
				equal(t, r, whole)
			}
		}
	}
}
