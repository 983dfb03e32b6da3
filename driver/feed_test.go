package driver_test

import (
	"math"
	"slices"
	"testing"

	"tmplpipe/api"
	"tmplpipe/driver"
)

// course is a driver that is fed some times, with the report behind each Feed.
type course struct {
	src            string
	capacity, most int
	feeds          [][]int
	reports        []string
}

// courses have each end, each action, and each error at several places. All of them were written down action by action.
func courses() []course {
	blocked, failed := `error 10, 12 actions 1 calls 6 steps 2 chunks 1 flushes l "1|a|"`, `error 9, 14 actions 6 calls 2 steps 3 chunks 0 flushes s "2|a&|2|lt|2|;x\r"`
	complete, missing := `done error 0, 4 actions 2 calls 0 steps 0 chunks 0 flushes "0||"`, `error 17, 5 actions 1 calls 2 steps 1 chunks 0 flushes x "2|ab|"`
	return []course{
		{"", 1, 1, [][]int{{}, {2}, {}, {3}, {}, {1}, {-1}, {0}}, []string{
			`error 10, 2 actions 0 calls 0 steps 0 chunks 0 flushes ""`,
			`error 10, 3 actions 1 calls 0 steps 0 chunks 0 flushes "0\r"`,
			`error 10, 3 actions 1 calls 0 steps 0 chunks 0 flushes "0\r"`,
			complete, complete, complete, complete, complete,
		}},
		{"a{{.s}}", 2, 2, [][]int{{9, 9}, {6, 0, 0}, {-1, 9}, {9}, {}, {-1}}, []string{
			`error 10, 11 actions 2 calls 2 steps 3 chunks 0 flushes s "2|a&|2|lt|"`,
			`error 10, 14 actions 5 calls 2 steps 3 chunks 0 flushes s "2|a&|2|lt|2|;x\r"`,
			failed, failed, failed, failed,
		}},
		{"ab{{.x}}c", 8, 8, [][]int{{}, {7}, {-1}, {}, {9, 9}}, []string{
			`error 10, 4 actions 0 calls 2 steps 1 chunks 0 flushes x ""`,
			missing, missing, missing, missing,
		}},
		{"{{.x}}", 1, 1, [][]int{{}, {9}}, []string{
			`error 17, 1 actions 0 calls 1 steps 0 chunks 0 flushes x ""`,
			`error 17, 1 actions 0 calls 1 steps 0 chunks 0 flushes x ""`,
		}},
		{"a{{flush}}b", 8, 8, [][]int{{6}, {6, 4}, {9, 9}}, []string{
			`error 10, 10 actions 1 calls 3 steps 2 chunks 1 flushes "1|a|"`,
			`error 10, 13 actions 3 calls 3 steps 2 chunks 1 flushes "1|a|1|b|0|\r"`,
			`done error 0, 14 actions 4 calls 3 steps 2 chunks 1 flushes "1|a|1|b|0||"`,
		}},
		{"{{flush}}{{flush}}", 1, 1, [][]int{{math.MinInt, math.MaxInt}, {math.MaxInt}}, []string{
			`error 9, 6 actions 1 calls 2 steps 0 chunks 2 flushes ""`,
			`error 9, 6 actions 1 calls 2 steps 0 chunks 2 flushes ""`,
		}},
		{"{{range .l}}{{.}}{{flush}}{{end}}", 4, 4, [][]int{{6}, {}, {1, 1, 1, 1, 1, 1, 6, 3}, {math.MaxInt}}, []string{
			blocked, blocked,
			`error 10, 30 actions 9 calls 10 steps 3 chunks 3 flushes l "1|a|1|b|1|c|0|"`,
			`done error 0, 31 actions 10 calls 10 steps 3 chunks 3 flushes l "1|a|1|b|1|c|0||"`,
		}},
		{"{{if .yes}}a{{else}}b{{end}}{{call f .m}}{{define f}}{{.s}}{{end}}", 100, 3, [][]int{{99, 99, 99, 99}}, []string{
			`done error 0, 17 actions 4 calls 4 steps 3 chunks 0 flushes yes m "3|am&|3|amp|1|;|0||"`,
		}},
		{"a{{.bad}}", 1, 1, [][]int{{0}, {6}, {6}}, []string{
			`error 10, 4 actions 1 calls 1 steps 1 chunks 0 flushes ""`,
			`error 20, 6 actions 2 calls 2 steps 1 chunks 0 flushes bad "1|a|"`,
			`error 20, 6 actions 2 calls 2 steps 1 chunks 0 flushes bad "1|a|"`,
		}},
	}
}

func TestFeed(t *testing.T) { // P21.3, P21.4
	for _, c := range courses() {
		d := opened(t, config(c.src, c.capacity, c.most))
		for i, schedule := range c.feeds {
			err := d.Feed(schedule...)
			if got := d.Report(); shown(got) != c.reports[i] || got.Err != err {
				t.Errorf("%s, %d: %v, %s, want %s", c.src, i, err, shown(got), c.reports[i])
			}
		}
	}
}

// TestEmptyFeeds has any number of empty feeds between the others, which change nothing but the initial state.
func TestEmptyFeeds(t *testing.T) { // P21.3, P21.6
	for _, c := range courses() {
		d := opened(t, config(c.src, c.capacity, c.most))
		for i, schedule := range c.feeds {
			for range i {
				d.Feed()
				d.Feed([]int{}...)
			}
			d.Feed(schedule...)
			want := d.Report()
			for range 3 {
				if err := d.Feed(); err != want.Err {
					t.Errorf("%s: %v, want %v", c.src, err, want.Err)
				}
				equal(t, d.Report(), want)
			}
			if shown(want) != c.reports[i] {
				t.Errorf("%s, %d: %s, want %s", c.src, i, shown(want), c.reports[i])
			}
		}
	}
}

// TestBlockedAgain blocks behind each number of bytes, for ever or until more is accepted.
func TestBlockedAgain(t *testing.T) { // P21.3, P21.4, P21.6
	for _, src := range []string{several, partial} {
		for _, size := range sizesOfSeveral() {
			c := config(src, size[0], size[1])
			whole := ran(t, c, accepting(500)...)
			for place := range len(whole.Wire) {
				d := opened(t, c)
				for range 3 {
					if err := d.Feed(); err != api.ErrBlocked {
						t.Fatal(err)
					}
				}
				if err := d.Feed(ones(place)...); err != api.ErrBlocked {
					t.Fatal(err)
				}
				want := d.Report()
				if want.Err != api.ErrBlocked || want.Done || want.Calls != place || string(want.Wire) != string(whole.Wire[:place]) {
					t.Fatalf("%d: %s", place, shown(want))
				}
				for i := range 3 {
					err := d.Feed(slices.Repeat([]int{0}, i)...)
					want.Actions += i
					want.Calls += i
					if got := d.Report(); err != api.ErrBlocked || !same(got, want) {
						t.Fatalf("%d: %v, %s, want %s", place, err, shown(got), shown(want))
					}
				}
				if err := d.Feed(accepting(500)...); err != whole.Err {
					t.Fatal(err)
				}
				got := d.Report()
				if parts := got.Calls - whole.Calls; got.Actions-whole.Actions != parts || parts < 3 || parts > place+3 {
					t.Fatalf("%d: %s, want %s", place, shown(got), shown(whole))
				}
				got.Calls, got.Actions = whole.Calls, whole.Actions
				equal(t, got, whole)
			}
		}
	}
}

// TestFailedAtEachPlace fails behind each number of bytes. Nothing changes behind a failure.
func TestFailedAtEachPlace(t *testing.T) { // P21.3, P21.4
	for _, src := range []string{several, partial} {
		for _, size := range sizesOfSeveral() {
			c := config(src, size[0], size[1])
			whole := ran(t, c, accepting(500)...)
			for place := range len(whole.Wire) {
				d, blocked := opened(t, c), ran(t, c, ones(place)...)
				failure := []int{-1, -2, math.MinInt, -65536}[place%4]
				if err := d.Feed(slices.Concat(ones(place), []int{failure}, accepting(500))...); err != api.ErrWrite {
					t.Fatal(err)
				}
				want := blocked
				want.Err = api.ErrWrite
				want.Calls++
				equal(t, d.Report(), want)
				for _, schedule := range [][]int{{}, {9}, {-1}, {0, 5}, accepting(500)} {
					if err := d.Feed(schedule...); err != api.ErrWrite {
						t.Fatal(err)
					}
					equal(t, d.Report(), want)
				}
			}
		}
	}
}

// TestBehindTheEnd feeds drivers that are done, or whose data has failed, with what they do not use any more.
func TestBehindTheEnd(t *testing.T) { // P21.3, P21.4
	for _, end := range []struct {
		src string
		err api.Errno
	}{
		{"", api.OK}, {several, api.OK}, {partial, api.ErrMissing}, {several + "{{.bad}}", api.ErrProvider}, {several + "{{.l}}", api.ErrType},
		{"ab{{call f}}{{define f}}{{call f}}{{end}}", api.ErrDepth}, {"{{.x}}", api.ErrMissing},
	} {
		for _, size := range sizesOfSeveral() {
			d := opened(t, config(end.src, size[0], size[1]))
			if err := d.Feed(accepting(500)...); err != end.err {
				t.Fatal(err)
			}
			want := d.Report()
			if want.Done != (end.err == api.OK) || want.Err != end.err {
				t.Fatal(shown(want))
			}
			for _, schedule := range [][]int{{}, {1}, {0}, {-1}, {math.MinInt, math.MaxInt}, accepting(500), {}} {
				if err := d.Feed(schedule...); err != end.err {
					t.Errorf("%s: %v", end.src, err)
				}
				equal(t, d.Report(), want)
			}
		}
	}
}

// TestOutcomesThatAreLeft has outcomes that the first Feed does not use because it ends before.
func TestOutcomesThatAreLeft(t *testing.T) { // P21.3
	for _, c := range []struct {
		src    string
		before []int
		err    api.Errno
	}{{"a", accepting(2), api.OK}, {"a", []int{6, -1}, api.ErrWrite}, {"a", []int{-1}, api.ErrWrite}, {"a{{.x}}", []int{6}, api.ErrMissing}, {"{{.x}}", nil, api.ErrMissing}} {
		want := ran(t, config(c.src, 9, 9), c.before...)
		for _, rest := range [][]int{{5}, {-1}, {0, 0}, {-1, -1, 9}} {
			d := opened(t, config(c.src, 9, 9))
			if err := d.Feed(slices.Concat(c.before, rest)...); err != c.err {
				t.Error(c.src, err)
			}
			equal(t, d.Report(), want)
			if err := d.Feed(9, 9, 9); err != c.err {
				t.Error(c.src, err)
			}
			equal(t, d.Report(), want)
		}
	}
}

// TestChangedSchedule changes slices of outcomes behind the Feed to which they were passed.
func TestChangedSchedule(t *testing.T) { // P21.3, rule 4
	for _, src := range []string{several, partial} {
		c := config(src, 3, 2)
		whole := ran(t, c, slices.Repeat([]int{2, 0, 1, 5}, 60)...)
		d, part := opened(t, c), make([]int, 4, 8)
		for range 60 {
			copy(part, []int{2, 0, 1, 5})
			d.Feed(part...)
			for i := range part[:8] {
				part[:8][i] = -1
			}
		}
		equal(t, d.Report(), whole)
	}
}

// TestNilDriver has what is said below the function list.
func TestNilDriver(t *testing.T) {
	var d *driver.Driver
	for _, schedule := range [][]int{{}, {1}, {-1}, {math.MaxInt, math.MinInt, 0}} {
		if err := d.Feed(schedule...); err != api.ErrNil {
			t.Error(err)
		}
		if r := d.Report(); !zero(r) || len(r.Wire) > 0 || len(r.Pulls) > 0 {
			t.Error(shown(r))
		}
	}
}
