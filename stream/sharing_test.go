package stream_test

import (
	"math"
	"slices"
	"strings"
	"sync"
	"testing"

	"tmplpipe/api"
	"tmplpipe/dechunk"
	"tmplpipe/machine"
	"tmplpipe/stream"
	"tmplpipe/writer"
)

func TestNilStream(t *testing.T) { // the sentence below the function list
	var s *stream.Stream
	for range 2 {
		if err := s.Step(); err != api.ErrNil {
			t.Error("Step =", err)
		}
		for _, most := range []int{math.MinInt, -1, 0, 1, 2, math.MaxInt} {
			if n, err := s.Run(most); n != 0 || err != api.ErrNil {
				t.Error("Run =", n, err)
			}
		}
		if s.Done() || s.Err() != api.OK || s.Stats() != (stream.Stats{}) {
			t.Error(s.Done(), s.Err(), s.Stats())
		}
	}
}

// TestTypes has the fields of Stats in their order, and the errors as values of api.Errno.
func TestTypes(t *testing.T) { // P20.4
	r := rigged(t, assemble("text abc;flush;text d;halt"), sampled(), 5, 2, accepting(9)...)
	for range 4 {
		r.s.Step()
	}
	if got := r.s.Stats(); got != (stream.Stats{1, 7, 1, 0}) {
		t.Error(got)
	}
	r.s.Run(4)
	if got := r.s.Stats(); got != (stream.Stats{0, 0, 2, 1}) {
		t.Error(got)
	}
}

// TestLooking has Done, Err and Stats, which change nothing, before each action.
func TestLooking(t *testing.T) { // P20.4
	quiet := rigged(t, compiled(t, several), sampled(), 3, 2, slices.Repeat([]int{2, 0}, 300)...)
	watched := rigged(t, compiled(t, several), sampled(), 3, 2, slices.Repeat([]int{2, 0}, 300)...)
	actions, _ := quiet.s.Run(math.MaxInt)
	for range actions {
		if watched.look() != watched.look() {
			t.Fatal("the same sight twice is not the same")
		}
		if err := watched.s.Step(); err != api.OK {
			t.Fatal(err)
		}
	}
	if watched.look() != quiet.look() || !watched.s.Done() {
		t.Errorf("%+v, want %+v", watched.look(), quiet.look())
	}
}

// TestTwoStreams has streams in turn, each of which is at another place: with a provider in common, and with their own.
func TestTwoStreams(t *testing.T) { // P2
	code, want := compiled(t, several), body(render(t, several, sampled()), 2)
	for lead := range 40 {
		shared := sampled()
		rigs := []rig{
			rigged(t, code, shared, 3, 2, accepting(200)...), rigged(t, code, shared, 2, 9, accepting(200)...), rigged(t, code, sampled(), 9, 2, slices.Repeat([]int{1, 7}, 100)...),
			rigged(t, compiled(t, partial), shared, 2, 2, accepting(200)...), rigged(t, code, shared, 2, 2, 6, -1),
		}
		for range lead {
			rigs[0].s.Step()
		}
		for i := range 2000 {
			rigs[i%len(rigs)].s.Step()
		}
		for i, r := range rigs[:3] {
			if string(r.w.Bytes()) != want || !r.s.Done() || r.s.Err() != api.OK {
				t.Fatalf("%d, %d: %q, %+v", lead, i, r.w.Bytes(), r.look())
			}
		}
		if rigs[3].s.Err() != api.ErrMissing || string(rigs[3].w.Bytes()) != strings.TrimSuffix(want, "0\r\n\r\n") || rigs[4].s.Err() != api.ErrWrite || string(rigs[4].w.Bytes()) != want[:6] {
			t.Fatalf("%d: %+v, %+v", lead, rigs[3].look(), rigs[4].look())
		}
	}
}

// TestOneAfterTheOther has a second stream for the machine and the writer of a first one, which is not used any more.
func TestOneAfterTheOther(t *testing.T) { // P20.1, P20.4
	out := render(t, several, sampled()).Out
	for actions := range 60 {
		first := rigged(t, compiled(t, several), sampled(), 3, 2, accepting(200)...)
		taken := 0
		for range actions {
			ready := first.m.Ready()
			first.s.Step()
			taken += max(0, ready-first.m.Ready())
		}
		delivered, left := string(first.w.Bytes()), first.s.Stats()
		second := connected(t, first.p, first.m, first.w, 5, 4)
		if second.s.Stats() != (stream.Stats{}) || second.s.Done() || second.s.Err() != api.OK {
			t.Fatal(second.s.Stats())
		}
		if _, err := second.s.Run(math.MaxInt); err != api.OK || !second.s.Done() {
			t.Fatal(err)
		}
		rest, _ := strings.CutPrefix(string(first.w.Bytes()), delivered)
		if payload, complete, err := dechunk.Decode([]byte(rest)); string(payload) != out[taken:] || !complete || err != api.OK {
			t.Fatalf("%d: %q, %v, behind %d bytes of %q", actions, rest, err, taken, out)
		}
		if first.s.Stats() != left || first.s.Done() || first.s.Err() != api.OK {
			t.Fatal(first.s.Stats(), left)
		}
	}
}

// TestDeliveredIsACopy changes what the writer returns while the stream is in use.
func TestDeliveredIsACopy(t *testing.T) { // P20.5, rule 4
	r := rigged(t, compiled(t, several), sampled(), 3, 2, slices.Repeat([]int{2}, 300)...)
	for r.s.Step() == api.OK {
		b := r.w.Bytes()
		for i := range b[:cap(b)] {
			b[:cap(b)][i] = '!'
		}
	}
	if want := body(render(t, several, sampled()), 2); string(r.w.Bytes()) != want {
		t.Errorf("%q, want %q", r.w.Bytes(), want)
	}
}

// TestDeterminism has the same calls with the same arguments, again and again.
func TestDeterminism(t *testing.T) { // rule 7
	want := ""
	for i := range 5 {
		got := rigged(t, compiled(t, several), sampled(), 3, 2, slices.Repeat([]int{2, 0, 1}, 300)...).traced(400)
		if i > 0 && got != want {
			t.Fatal(got, want)
		}
		want = got
	}
}

// TestCallsAtATime has streams of several goroutines, with code in common.
func TestCallsAtATime(t *testing.T) { // rule 6
	code := compiled(t, several)
	want := body(render(t, several, sampled()), 2)
	var group sync.WaitGroup
	for i := range 8 {
		group.Go(func() {
			for range 50 {
				p := sampled()
				m, _ := machine.New(code, p)
				w := writer.New(slices.Repeat([]int{i + 1}, 500)...)
				s, _ := stream.New(m, w, 2+i, 2)
				if _, err := s.Run(math.MaxInt); err != api.OK || string(w.Bytes()) != want || !s.Done() {
					t.Errorf("%v, %q", err, w.Bytes())
				}
			}
		})
	}
	group.Wait()
}
