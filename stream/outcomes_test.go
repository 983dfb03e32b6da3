package stream_test

import (
	"math"
	"slices"
	"strings"
	"testing"

	"tmplpipe/api"
	"tmplpipe/dechunk"
)

// several has text, interpolations, flushes, a loop and calls. With the sample, it succeeds.
const several = `ab{{.s}}{{flush}}{{range .l}}{{.}}{{flush}}x{{end}}{{call f .m}}{{flush}}{{flush}}<p>{{.n}}{{define f}}{{flush}}{{.s}}{{range .l}}{{.}}{{end}}{{end}}`

// partial fails at its end, behind the output of several.
const partial = several + `{{.x}}y`

// sizesOfSeveral are capacities of ring buffers and of chunks.
var sizesOfSeveral = [][2]int{{1, 1}, {3, 2}, {2, 9}, {9, 4}, {100, 3}, {100, 100}}

// TestBlockAtEachPlace has a writer that accepts a number of bytes and then blocks, again and again. Then it accepts the rest.
func TestBlockAtEachPlace(t *testing.T) { // P20.2 (action 3), P20.4, P20.5
	for _, src := range []string{several, partial} {
		for _, size := range sizesOfSeveral {
			whole := rigged(t, compiled(t, src), sampled(), size[0], size[1], accepting(500)...)
			actions, end := whole.s.Run(math.MaxInt)
			delivered := string(whole.w.Bytes())
			for place := range len(delivered) {
				r := rigged(t, compiled(t, src), sampled(), size[0], size[1], slices.Repeat([]int{1}, place)...)
				before, err := r.s.Run(math.MaxInt)
				if err != api.ErrBlocked || string(r.w.Bytes()) != delivered[:place] {
					t.Fatalf("%d: %v, %q", place, err, r.w.Bytes())
				}
				want := r.look()
				for range 3 {
					ran(t, r, 5, 0, api.ErrBlocked)
					if err := r.s.Step(); err != api.ErrBlocked || r.look() != want {
						t.Fatalf("%d: %v, %+v, want %+v", place, err, r.look(), want)
					}
				}
				r.w.Extend(accepting(500)...)
				behind, err := r.s.Run(math.MaxInt)
				if err != end || string(r.w.Bytes()) != delivered || r.s.Stats() != whole.s.Stats() || r.s.Done() != whole.s.Done() || r.s.Err() != whole.s.Err() {
					t.Fatalf("%d: %v, %q, %+v", place, err, r.w.Bytes(), r.look())
				}
				// The writes of one byte are more actions, but only as many as there are such writes.
				if parts := before + behind - actions; parts < 0 || parts > place {
					t.Errorf("%d: %d and %d actions, not %d", place, before, behind, actions)
				}
			}
		}
	}
}

// TestFailureAtEachPlace has a writer that accepts a number of bytes and then fails.
func TestFailureAtEachPlace(t *testing.T) { // P20.2 (actions 1 and 3), P20.3, P20.4, P20.7
	for _, src := range []string{several, partial} {
		for _, size := range sizesOfSeveral {
			whole := rigged(t, compiled(t, src), sampled(), size[0], size[1], accepting(500)...)
			whole.s.Run(math.MaxInt)
			delivered := string(whole.w.Bytes())
			for place := range len(delivered) {
				r := rigged(t, compiled(t, src), sampled(), size[0], size[1], slices.Concat(slices.Repeat([]int{1}, place), []int{-1 - place%3}, accepting(500))...)
				if _, err := r.s.Run(math.MaxInt); err != api.ErrWrite || r.s.Err() != api.ErrWrite || string(r.w.Bytes()) != delivered[:place] || r.s.Done() {
					t.Fatalf("%d: %v, %q", place, err, r.w.Bytes())
				}
				want := r.look()
				if want.calls != place+1 || want.stats.Pending == 0 {
					t.Fatalf("%d: %+v", place, want)
				}
				for range 3 {
					r.w.Extend(9)
					want.left++
					ran(t, r, 5, 0, api.ErrWrite)
					if err := r.s.Step(); err != api.ErrWrite || r.look() != want {
						t.Fatalf("%d: %v, %+v, want %+v", place, err, r.look(), want)
					}
				}
			}
		}
	}
}

// TestCutSchedules has schedules that are cut anywhere, and extended when the stream blocks, or before.
func TestCutSchedules(t *testing.T) { // P20.3, P20.4, P20.5
	for i, schedule := range [][]int{accepting(40), slices.Repeat([]int{0, 3, 1}, 80), slices.Repeat([]int{9, 0, 4}, 30), append(slices.Repeat([]int{2}, 30), -1, 5), append(slices.Repeat([]int{1, 40}, 8), -1)} {
		for _, src := range []string{several, partial} {
			size := sizesOfSeveral[i]
			whole := rigged(t, compiled(t, src), sampled(), size[0], size[1], schedule...)
			actions, end := whole.s.Run(math.MaxInt)
			want := whole.look()
			for cut := range len(schedule) + 1 {
				late := rigged(t, compiled(t, src), sampled(), size[0], size[1], schedule[:cut]...)
				n, err := late.s.Run(math.MaxInt)
				if err == api.ErrBlocked {
					late.s.Run(3)
				}
				late.w.Extend(schedule[cut:]...)
				m, err := late.s.Run(math.MaxInt)
				if n+m != actions || err != end || late.look() != want {
					t.Fatalf("%d: %d and %d actions, %v, %+v, want %d, %v, %+v", cut, n, m, err, late.look(), actions, end, want)
				}
				early := rigged(t, compiled(t, src), sampled(), size[0], size[1], schedule[:cut]...)
				n, _ = early.s.Run(cut)
				early.w.Extend(schedule[cut:]...)
				m, err = early.s.Run(math.MaxInt)
				if n+m != actions || err != end || early.look() != want {
					t.Fatalf("%d: %d and %d actions, %v, %+v, want %d, %v, %+v", cut, n, m, err, early.look(), actions, end, want)
				}
			}
		}
	}
}

// TestBytesDoNotDependOnTheSchedule has one output and many schedules.
func TestBytesDoNotDependOnTheSchedule(t *testing.T) { // P20.5
	n := numbers(8)
	for _, src := range []string{several, partial} {
		for _, size := range sizesOfSeveral {
			want := body(render(t, src, sampled()), min(size[0], size[1]))
			chunks := strings.Count(visible(want), "|") / 2
			for range 100 {
				q := pairedTemplate(t, src, sampled, size[0], size[1], n.schedule(1<<30)...)
				q.finish(t, func() []int { return append(n.schedule(1<<30), 1) })
				s := q.s.Stats()
				if q.s.Done() {
					s.Chunks++ // the last chunk
				}
				if string(q.w.Bytes()) != want || s.Chunks != chunks || s.Flushes != 7 {
					t.Fatalf("%q, %+v, want %q, %d", q.w.Bytes(), s, want, chunks)
				}
			}
		}
	}
}

// TestPayload has the delivered bytes behind each action, whose payload is the beginning of what is rendered.
func TestPayload(t *testing.T) { // P20.4, P20.5, P20.7
	for _, src := range []string{several, partial} {
		result := render(t, src, sampled())
		for _, size := range sizesOfSeveral {
			r := rigged(t, compiled(t, src), sampled(), size[0], size[1], slices.Repeat([]int{2, 0, 5, 1}, 200)...)
			for i := 0; ; i++ {
				err := r.s.Step()
				payload, complete, syntax := dechunk.Decode(r.w.Bytes())
				if syntax != api.OK || len(payload) > len(result.Out) || result.Out[:len(payload)] != string(payload) || complete != r.s.Done() {
					t.Fatalf("%d: %q of %q, %v", i, r.w.Bytes(), result.Out, syntax)
				}
				if s := r.s.Stats(); s.Buffered < 0 || s.Buffered > size[0] || s.Pending < 0 || s.Pending > 9+min(size[0], size[1]) {
					t.Fatalf("%d: %+v", i, s)
				}
				if err == api.OK {
					continue
				}
				if string(payload) != result.Out || r.s.Err() != result.Err || r.s.Done() != (result.Err == api.OK) {
					t.Fatalf("at the end %q of %q, %v", r.w.Bytes(), result.Out, err)
				}
				break
			}
		}
	}
}
