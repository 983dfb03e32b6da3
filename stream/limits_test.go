package stream_test

import (
	"math"
	"slices"
	"strings"
	"testing"

	"tmplpipe/api"
	"tmplpipe/dechunk"
)

// large are sizes about the limits.
var large = [][2]int{{65536, 65536}, {65536, 65535}, {65535, 65536}, {65536, 1000}, {1000, 65536}, {4096, 4096}, {65535, 77}, {77, 65535}}

// delivers checks all that is delivered of a template with large output.
func delivers(t *testing.T, src string, data object, want api.Errno, sizes ...[2]int) {
	t.Helper()
	result := render(t, src, provided(data))
	if result.Err != want {
		t.Fatalf("%.100q: %v", src, result.Err)
	}
	for _, size := range sizes {
		r := rigged(t, compiled(t, src), provided(data), size[0], size[1], accepting(300000)...)
		if _, err := r.s.Run(math.MaxInt); err != want || r.s.Err() != want || r.s.Done() != (want == api.OK) {
			t.Fatalf("%.100q, %d: %v, %v, %v", src, size, err, r.s.Err(), r.s.Done())
		}
		if string(r.w.Bytes()) != body(result, min(size[0], size[1])) {
			t.Errorf("%.100q, %d: %d bytes, %+v", src, size, len(r.w.Bytes()), r.s.Stats())
		}
	}
}

// TestMostOutput has as much output as there can be, and more.
func TestMostOutput(t *testing.T) { // P20.5, P20.7
	part := object{"s": filler(65536), "t": "a", "e": ""}
	most := strings.Repeat("{{.s}}", 4)
	delivers(t, most, part, api.OK, large...)
	delivers(t, most+"{{.e}}{{flush}}", part, api.OK, large...)
	delivers(t, most+"{{.t}}", part, api.ErrLimit, large...)
	delivers(t, most+"b", part, api.ErrLimit, large...)
	delivers(t, "{{.t}}{{flush}}"+most+"{{.t}}", part, api.ErrLimit, large...)
	delivers(t, "{{.s}}", object{"s": filler(api.MaxOutput)}, api.OK, large...)
	delivers(t, most+"{{.t}}", part, api.ErrLimit, [2]int{1, 65536}, [2]int{65536, 1})
	delivers(t, "ab{{flush}}{{.s}}", object{"s": filler(api.MaxOutput)}, api.ErrLimit, large...)
	delivers(t, "{{.s}}{{flush}}{{.s}}{{.s}}", object{"s": strings.Repeat("<", 25000)}, api.ErrLimit, large...) // 4 bytes for each
}

// TestMostSteps has as many steps as there can be, and more.
func TestMostSteps(t *testing.T) { // P20.5, P20.7
	for _, c := range []struct {
		items int
		err   api.Errno
	}{{6666, api.OK}, {6667, api.ErrLimit}} { // 3 steps for each item, and one for the loop
		data := object{"l": slices.Repeat(list{"x"}, c.items)}
		delivers(t, "{{range .l}}a{{.}}{{end}}", data, c.err, large...)
		delivers(t, "{{range .l}}{{flush}}{{.}}{{end}}", data, c.err, large...)
	}
	delivers(t, "{{range .l}}{{flush}}{{end}}", object{"l": slices.Repeat(list{1}, 9999)}, api.OK, large...)
	delivers(t, "{{range .l}}{{flush}}{{end}}", object{"l": slices.Repeat(list{1}, 10000)}, api.ErrLimit, large...)
}

// TestLargestChunks has ring buffers that are just full, one byte from it, and more than full.
func TestLargestChunks(t *testing.T) { // P20.1, P20.4, P20.5
	for _, c := range []struct {
		length, capacity, most int
		sizes                  []int
	}{
		{65535, 65536, 65536, []int{65535, 0}},
		{65536, 65536, 65536, []int{65536, 0}},
		{65537, 65536, 65536, []int{65536, 1, 0}},
		{65536, 65535, 65536, []int{65535, 1, 0}},
		{65536, 65536, 65535, []int{65535, 1, 0}},
		{131072, 65536, 65536, []int{65536, 65536, 0}},
		{131073, 65536, 40000, []int{40000, 40000, 40000, 11073, 0}},
	} {
		r := rigged(t, compiled(t, "{{.s}}"), provided(object{"s": filler(c.length)}), c.capacity, c.most, accepting(9)...)
		largest := 0
		for r.s.Step() == api.OK {
			largest = max(largest, r.s.Stats().Buffered)
		}
		d := dechunk.New()
		if err := d.Feed(r.w.Bytes()); err != api.OK || !d.Complete() || !slices.Equal(d.Sizes(), c.sizes) || string(d.Payload()) != filler(c.length) {
			t.Errorf("%+v: %v, %d", c, err, d.Sizes())
		}
		if largest != min(c.length, c.capacity) || r.s.Stats().Chunks != len(c.sizes)-1 {
			t.Errorf("%+v: %d bytes, %+v", c, largest, r.s.Stats())
		}
	}
}

// TestLargeChunkInPieces has a chunk that is delivered in many writes.
func TestLargeChunkInPieces(t *testing.T) { // P20.2 (action 3), P20.4
	for _, outcome := range []int{1, 1000, 65535} {
		r := rigged(t, compiled(t, "{{.s}}{{flush}}"), provided(object{"s": filler(5000)}), 65536, 65536, slices.Repeat([]int{outcome}, 6000)...)
		last := 0
		for err := api.OK; err == api.OK; err = r.s.Step() {
			s := r.s.Stats()
			delivered := len(r.w.Bytes())
			if s.Flushes == 0 && s.Chunks == 1 && s.Pending+delivered != 5008 || delivered > last+outcome {
				t.Fatal(s, delivered, last)
			}
			last = delivered
		}
		if want := body(render(t, "{{.s}}", provided(object{"s": filler(5000)})), 5000); string(r.w.Bytes()) != want || !r.s.Done() {
			t.Errorf("%d: %d bytes, %+v", outcome, len(r.w.Bytes()), r.s.Stats())
		}
	}
}
