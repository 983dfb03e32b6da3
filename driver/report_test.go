package driver_test

import (
	"slices"
	"sync"
	"testing"

	"tmplpipe/api"
	"tmplpipe/driver"
)

// TestTypes has the fields of both structs in the order of the chapter, and by their names.
func TestTypes(t *testing.T) { // P21.4
	c := driver.Config{"ab{{flush}}{{.s}}{{.x}}", sample(), []string{"x"}, 4, 3}
	r := driver.Report{[]byte("2\r\nab\r\n3\r\n&lt\r\n3\r\n;x&\r\n3\r\ngt;\r\n"), false, api.ErrProvider, 17, 4, 4, 4, 1, []string{"s", "x"}}
	equal(t, ran(t, c, accepting(9)...), r)
	r = driver.Report{Wire: []byte("0\r\n\r\n"), Done: true, Err: api.OK, Actions: 3, Calls: 1, Steps: 0, Chunks: 0, Flushes: 0, Pulls: nil}
	equal(t, ran(t, driver.Config{Source: "", Fields: nil, Fail: nil, Capacity: 1, Most: 1}, 5), r)
}

// TestReports has a report for each byte that is delivered, against those before.
func TestReports(t *testing.T) { // P21.4
	for _, src := range []string{several, partial} {
		for _, size := range sizesOfSeveral() {
			c := config(src, size[0], size[1])
			whole, d := ran(t, c, accepting(500)...), opened(t, c)
			before := d.Report()
			for calls := range len(whole.Wire) + 1 {
				if calls > 0 {
					d.Feed(1)
				}
				r := d.Report()
				if string(r.Wire) != string(whole.Wire[:calls]) || r.Calls != calls || r.Done != (calls == len(whole.Wire) && whole.Err == api.OK) {
					t.Fatalf("%d: %s", calls, shown(r))
				}
				if r.Steps < before.Steps || r.Chunks < before.Chunks || r.Chunks > before.Chunks+1 || r.Flushes < before.Flushes || !slices.Equal(r.Pulls[:len(before.Pulls)], before.Pulls) {
					t.Fatalf("%d: %s, before %s", calls, shown(r), shown(before))
				}
				if calls > 0 && r.Actions <= before.Actions {
					t.Fatalf("%d: %s, before %s", calls, shown(r), shown(before))
				}
				before = r
				if calls == 0 {
					d.Feed()
					before = d.Report()
				}
			}
			before.Actions, before.Calls = whole.Actions, whole.Calls
			equal(t, before, whole)
		}
	}
}

// TestReportsAreCopies changes the slices of reports, also behind their lengths.
func TestReportsAreCopies(t *testing.T) { // P21.4, rule 4
	for _, src := range []string{several, partial} {
		c := config(src, 3, 2)
		whole, d := ran(t, c, ones(500)...), opened(t, c)
		for range whole.Calls {
			d.Feed(1)
			kept, spoilt, other := d.Report(), d.Report(), d.Report()
			wire, pulls := string(kept.Wire), slices.Clone(kept.Pulls)
			for i := range spoilt.Wire[:cap(spoilt.Wire)] {
				spoilt.Wire[:cap(spoilt.Wire)][i] = '!'
			}
			for i := range spoilt.Pulls[:cap(spoilt.Pulls)] {
				spoilt.Pulls[:cap(spoilt.Pulls)][i] = "spoilt"
			}
			_, _ = append(other.Wire, "behind"...), append(other.Pulls, "behind")
			equal(t, d.Report(), kept)
			equal(t, other, kept)
			if string(kept.Wire) != wire || !slices.Equal(kept.Pulls, pulls) {
				t.Fatal("a report has changed:", shown(kept))
			}
		}
		equal(t, d.Report(), whole)
	}
}

// TestReportsStay has reports that later feeds do not change.
func TestReportsStay(t *testing.T) { // P21.4, rule 4
	d := opened(t, config(several, 3, 2))
	var reports []driver.Report
	var texts []string
	for range 250 {
		d.Feed(1)
		reports = append(reports, d.Report())
		texts = append(texts, shown(reports[len(reports)-1]))
	}
	for i, r := range reports {
		if shown(r) != texts[i] {
			t.Fatalf("%s, was %s", shown(r), texts[i])
		}
	}
}

// TestReportChangesNothing has a driver with many reports, and one without.
func TestReportChangesNothing(t *testing.T) { // P21.4
	for _, src := range []string{several, partial} {
		quiet, watched := opened(t, config(src, 3, 2)), opened(t, config(src, 3, 2))
		for i := range 300 {
			outcome := []int{2, 0, 1}[i%3]
			a, b := quiet.Feed(outcome), api.OK
			for range 3 {
				watched.Report()
			}
			if b = watched.Feed(outcome); a != b {
				t.Fatal(a, b)
			}
		}
		equal(t, watched.Report(), quiet.Report())
	}
}

// TestTwoDrivers has drivers of the same and of other configurations in turn, each of which is at another place.
func TestTwoDrivers(t *testing.T) { // P2
	for lead := range 60 {
		shared := config(several, 3, 2)
		configurations := []driver.Config{shared, shared, config(partial, 3, 2), config(several, 2, 9), {Source: "a{{.s}}", Capacity: 1, Most: 1}}
		schedules := [][]int{ones(400), slices.Repeat([]int{0, 5}, 200), ones(400), append(ones(20), -1), ones(9)}
		var drivers []*driver.Driver
		for _, c := range configurations {
			drivers = append(drivers, opened(t, c))
		}
		drivers[0].Feed(schedules[0][:lead]...)
		schedules[0] = schedules[0][lead:]
		for i := range 400 {
			for k, d := range drivers {
				if i < len(schedules[k]) {
					d.Feed(schedules[k][i])
				}
			}
		}
		schedules[0] = ones(400)
		for k, d := range drivers {
			equal(t, d.Report(), ran(t, configurations[k], schedules[k]...))
		}
	}
}

// TestDeterminism has the same calls with the same arguments, again and again.
func TestDeterminism(t *testing.T) { // rule 7
	for _, src := range []string{several, partial, deepSource} {
		want := ran(t, config(src, 3, 2), slices.Repeat([]int{2, 0, 1}, 30)...)
		for range 20 {
			equal(t, ran(t, config(src, 3, 2), slices.Repeat([]int{2, 0, 1}, 30)...), want)
		}
	}
}

// TestCallsAtATime has drivers of several goroutines, with a configuration in common.
func TestCallsAtATime(t *testing.T) { // rule 6
	c := config(several, 3, 2)
	want := ran(t, c, ones(500)...)
	var group sync.WaitGroup
	for range 8 {
		group.Go(func() {
			for range 20 {
				d, _, _ := driver.New(c)
				for range 500 {
					d.Feed(1)
				}
				r, at, err := driver.Run(c, ones(500)...)
				if !same(d.Report(), want) || !same(r, want) || at != 0 || err != api.OK {
					t.Error(shown(r), at, err)
				}
				if at, err := driver.Check(c); at != 0 || err != api.OK {
					t.Error(at, err)
				}
			}
		})
	}
	group.Wait()
}
