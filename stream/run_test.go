package stream_test

import (
	"math"
	"slices"
	"testing"

	"tmplpipe/api"
)

// ran checks the results of Run.
func ran(t *testing.T, r rig, most, want int, wantErr api.Errno) {
	t.Helper()
	if n, err := r.s.Run(most); n != want || err != wantErr {
		t.Errorf("Run(%d) = %d, %v, want %d, %v", most, n, err, want, wantErr)
	}
}

// course is a stream whose actions succeed up to an error, or until it is done.
type course struct {
	src            string
	capacity, most int
	schedule       []int
	actions        int       // that succeed
	end            api.Errno // of Run behind them
}

// courses have all ends, each at several places.
func courses() []course {
	return []course{
		{"", 1, 1, accepting(1), 3, api.OK},
		{"a{{flush}}b", 8, 8, accepting(3), 13, api.OK},
		{"ab{{flush}}c{{.s}}", 2, 1, accepting(30), 43, api.OK},
		{"a{{flush}}b", 8, 8, []int{0, 1, 0, 2, 9, 6, 1, 1, 0, 9}, 20, api.OK},
		{"a{{flush}}b", 8, 8, nil, 4, api.ErrBlocked},
		{"a{{flush}}b", 8, 8, []int{6}, 10, api.ErrBlocked},
		{"a{{flush}}b", 8, 8, []int{6, 6, 4}, 13, api.ErrBlocked},
		{"a{{flush}}b", 8, 8, []int{-1}, 4, api.ErrWrite},
		{"a{{flush}}b", 8, 8, []int{6, 0, -1}, 11, api.ErrWrite},
		{"a{{flush}}b", 8, 8, []int{6, 6, -1}, 12, api.ErrWrite},
		{"{{.x}}", 8, 8, nil, 1, api.ErrMissing},
		{"a{{flush}}b{{.l}}", 8, 8, accepting(2), 11, api.ErrType},
		{"{{flush}}{{call f}}{{define f}}c{{call f}}{{end}}", 8, 8, accepting(9), 2 + 3*16 + 5, api.ErrDepth},
	}
}

func (c course) start(t *testing.T) rig {
	t.Helper()
	return rigged(t, compiled(t, c.src), sampled(), c.capacity, c.most, c.schedule...)
}

// stepped performs a number of actions, which must succeed.
func stepped(t *testing.T, r rig, actions int) {
	t.Helper()
	for i := range actions {
		if err := r.s.Step(); err != api.OK {
			t.Fatal(i, err)
		}
	}
}

// TestRun has each number of actions up to the end and beyond.
func TestRun(t *testing.T) { // P20.3, P20.4
	for i, c := range courses() {
		for most := range c.actions + 1 {
			r, other := c.start(t), c.start(t)
			ran(t, r, most, most, api.OK)
			stepped(t, other, most)
			if got, want := r.look(), other.look(); got != want {
				t.Fatalf("%d: behind %d actions %+v, want %+v", i, most, got, want)
			}
		}
		for _, most := range []int{c.actions + 1, c.actions + 2, 2*c.actions + 1000, 1 << 32, math.MaxInt - 1, math.MaxInt} {
			r, other := c.start(t), c.start(t)
			ran(t, r, most, c.actions, c.end)
			stepped(t, other, c.actions)
			if c.end != api.OK && other.s.Step() != c.end {
				t.Error(i)
			}
			if got, want := r.look(), other.look(); got != want {
				t.Fatalf("%d: %+v, want %+v", i, got, want)
			}
			if r.s.Done() != (c.end == api.OK) {
				t.Error(i, "Done:", r.s.Done())
			}
		}
	}
}

// TestRunNothing has numbers that are not positive, at each place, the end and errors included.
func TestRunNothing(t *testing.T) { // P20.3
	for _, c := range courses() {
		for before := range c.actions + 2 {
			r := c.start(t)
			r.s.Run(before)
			want := r.look()
			for _, most := range []int{0, -1, -2, -65536, math.MinInt, math.MinInt + 1} {
				ran(t, r, most, 0, api.OK)
			}
			if got := r.look(); got != want {
				t.Fatalf("%+v, want %+v", got, want)
			}
		}
	}
}

// TestRunBehindTheEnd has streams that are done, and streams with an error.
func TestRunBehindTheEnd(t *testing.T) { // P20.2, P20.3
	for _, c := range courses() {
		r := c.start(t)
		r.s.Run(math.MaxInt)
		want := r.look()
		for _, most := range []int{1, 2, 100, math.MaxInt} {
			ran(t, r, most, 0, c.end)
			step := c.end
			if c.end == api.OK {
				step = api.ErrState
			}
			if err := r.s.Step(); err != step {
				t.Errorf("Step = %v, want %v", err, step)
			}
		}
		if got := r.look(); got != want {
			t.Errorf("%+v, want %+v", got, want)
		}
	}
}

// TestRunInPieces has a course in pieces of each size, with blocks that are ended between.
func TestRunInPieces(t *testing.T) { // P20.3
	for _, c := range courses() {
		for piece := 1; piece < 9; piece++ {
			r := c.start(t)
			for left := c.actions; left > 0; left -= piece {
				ran(t, r, min(left, piece), min(left, piece), api.OK)
			}
			ran(t, r, 1, 0, c.end)
		}
	}
}

// TestRunFromBlockToBlock extends the schedule by one outcome at a time.
func TestRunFromBlockToBlock(t *testing.T) { // P20.3
	for _, outcome := range []int{1, 2, 5, math.MaxInt} {
		whole := rigged(t, compiled(t, "ab{{flush}}c{{.s}}"), sampled(), 3, 2, slices.Repeat([]int{outcome}, 100)...)
		want, _ := whole.s.Run(math.MaxInt)
		r := rigged(t, compiled(t, "ab{{flush}}c{{.s}}"), sampled(), 3, 2)
		got := 0
		for !r.s.Done() {
			n, err := r.s.Run(math.MaxInt)
			got += n
			if err != api.ErrBlocked {
				t.Fatal(err)
			}
			ran(t, r, 9, 0, api.ErrBlocked)
			r.w.Extend(outcome)
			ran(t, r, 1, 1, api.OK)
			got++
		}
		if got != want || string(r.w.Bytes()) != string(whole.w.Bytes()) {
			t.Errorf("%d: %d, want %d", outcome, got, want)
		}
	}
}

// TestRunDoesWhatStepsDo has irregular templates and irregular numbers of actions.
func TestRunDoesWhatStepsDo(t *testing.T) { // P20.3
	n := numbers(3)
	for range 200 {
		src, data, schedule := n.template(), n.object(3), slices.Concat(n.schedule(50), n.schedule(50), n.schedule(50))
		provide := func() rig {
			return rigged(t, compiled(t, src), provided(data), 7, 5, schedule...)
		}
		r, other := provide(), provide()
		for range 40 {
			most := n.below(40)
			got, err := r.s.Run(most)
			want, wantErr := 0, api.OK
			for want < most && !other.s.Done() && wantErr == api.OK {
				if wantErr = other.s.Step(); wantErr == api.OK {
					want++
				}
			}
			if got != want || err != wantErr || r.look() != other.look() {
				t.Fatalf("Run(%d) = %d, %v, want %d, %v; %+v, want %+v", most, got, err, want, wantErr, r.look(), other.look())
			}
			if err == api.ErrBlocked {
				r.w.Extend(0, 9)
				other.w.Extend(0, 9)
			}
		}
	}
}
