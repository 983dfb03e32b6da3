package stream_test

import (
	"fmt"
	"math"
	"slices"
	"strings"
	"testing"

	"tmplpipe/api"
	"tmplpipe/dechunk"
	"tmplpipe/machine"
)

// gates is a template with flushes of which each has a name of its own behind it, and what is rendered before each name.
func gates() (string, map[string]string) {
	var src, out strings.Builder
	before := map[string]string{}
	for i, text := range []string{"abc", "", "d", "efghijkl", "mn"} {
		name := fmt.Sprintf("g%d", i)
		src.WriteString(text + "{{flush}}")
		out.WriteString(text)
		before[name] = out.String()
		src.WriteString([]string{"{{." + name + "}}", "{{if ." + name + "}}if{{end}}", "{{range ." + name + "}}{{.}}{{end}}", "{{call f ." + name + "}}", "{{." + name + ".x}}"}[i])
		out.WriteString([]string{"&lt;", "if", "12", "v", "w"}[i])
	}
	return src.String() + "{{define f}}{{.}}{{end}}", before
}

func gateData() object {
	return object{"g0": "<", "g1": true, "g2": list{1, 2}, "g3": "v", "g4": object{"x": "w"}}
}

// TestNothingIsPulledBeforeDelivery checks what has been delivered when a name behind a flush is pulled, with writers that
// accept little, and block each time.
func TestNothingIsPulledBeforeDelivery(t *testing.T) { // P20.6
	src, before := gates()
	for _, size := range [][2]int{{1, 1}, {2, 3}, {3, 2}, {4, 1}, {8, 8}, {65536, 65536}} {
		for _, outcome := range []int{0, 1, 2, 5, 8, math.MaxInt} {
			r := rigged(t, compiled(t, src), provided(gateData()), size[0], size[1])
			pulled := 0
			for end := false; !end; {
				err := r.s.Step()
				if pulls := r.p.Pulls(); len(pulls) > pulled {
					payload, complete, _ := dechunk.Decode(r.w.Bytes())
					if len(pulls) != pulled+1 || string(payload) != before[pulls[pulled]] || complete || !whole(r) {
						t.Fatalf("%d, %d: %q is delivered before %s is pulled", size, outcome, r.w.Bytes(), pulls[pulled])
					}
					pulled++
				}
				switch err {
				case api.ErrBlocked:
					r.w.Extend(0, outcome, 1)
				case api.ErrState:
					end = true
				}
			}
			if pulled != 5 || r.s.Stats().Flushes != 5 {
				t.Error(pulled, r.s.Stats())
			}
		}
	}
}

// whole reports whether all that is delivered is complete chunks.
func whole(r rig) bool {
	d := dechunk.New()
	d.Feed(r.w.Bytes())
	return d.Whole()
}

// TestFlushWaits blocks while the output before a flush is delivered: the machine waits.
func TestFlushWaits(t *testing.T) { // P20.6
	for _, size := range [][2]int{{3, 3}, {4, 2}, {9, 1}, {9, 9}} {
		want := body(render(t, "abc", sampled()), min(size[0], size[1]))
		want = want[:len(want)-len("0\r\n\r\n")]
		for accepted := range len(want) {
			r := rigged(t, compiled(t, "abc{{flush}}{{.s}}"), sampled(), size[0], size[1], slices.Repeat([]int{1}, accepted)...)
			if _, err := r.s.Run(1000); err != api.ErrBlocked || string(r.w.Bytes()) != want[:accepted] {
				t.Fatalf("%v, %q", err, r.w.Bytes())
			}
			// With a ring buffer that has just become full, the flush itself waits as well.
			if r.m.Status() != machine.Flushing && r.m.Index() != 1 || len(r.p.Pulls()) > 0 || r.s.Stats().Flushes != 0 {
				t.Fatalf("%d, %d: %+v", size, accepted, r.look())
			}
		}
		r := rigged(t, compiled(t, "abc{{flush}}{{.s}}"), sampled(), size[0], size[1], slices.Repeat([]int{1}, len(want))...)
		for r.s.Stats().Flushes == 0 {
			if err := r.s.Step(); err != api.OK {
				t.Fatal(err)
			}
		}
		if string(r.w.Bytes()) != want || r.m.Steps() != 2 || len(r.p.Pulls()) > 0 {
			t.Errorf("%+v", r.look())
		}
	}
}

// TestChunksAndMarks has flushes behind each number of bytes. Their output is cut into chunks by itself.
func TestChunksAndMarks(t *testing.T) { // P20.5, P20.6
	text := "abcdefghij"
	for marks := range 1 << (len(text) + 1) {
		var src strings.Builder
		for i := range len(text) + 1 {
			if marks>>i&1 == 1 {
				src.WriteString("{{flush}}")
			}
			if i < len(text) {
				src.WriteString(text[i : i+1])
			}
		}
		capacity, most := 1+marks%5, 1+marks%7
		r := rigged(t, compiled(t, src.String()), sampled(), capacity, most, accepting(100)...)
		r.s.Run(math.MaxInt)
		d := dechunk.New()
		d.Feed(r.w.Bytes())
		if !d.Complete() || string(d.Payload()) != text {
			t.Fatalf("%s: %q", src.String(), r.w.Bytes())
		}
		at := 0
		for _, size := range d.Sizes() {
			for i := at + 1; i < at+size; i++ {
				if marks>>i&1 == 1 {
					t.Fatalf("%s: %q", src.String(), r.w.Bytes())
				}
			}
			at += size
		}
		if got, want := string(r.w.Bytes()), body(render(t, src.String(), sampled()), min(capacity, most)); got != want {
			t.Fatalf("%s: %q, want %q", src.String(), got, want)
		}
	}
}

// TestFailingBehindOutput has machines that fail behind output of each length, also behind a flush.
func TestFailingBehindOutput(t *testing.T) { // P20.7
	for _, flush := range []string{"", "{{flush}}"} {
		for _, fault := range []struct {
			src string
			err api.Errno
		}{{"{{.x}}", api.ErrMissing}, {"{{.bad}}", api.ErrProvider}, {"{{.l}}", api.ErrType}, {"{{range .s}}{{end}}", api.ErrType}, {"{{if .n}}{{end}}", api.ErrType}, {"{{call f}}{{define f}}{{call f}}{{end}}", api.ErrDepth}} {
			for length := range 20 {
				src := filler(length) + flush + fault.src + "z"
				for _, size := range [][2]int{{1, 1}, {4, 3}, {5, 9}, {100, 100}} {
					r := rigged(t, compiled(t, src), sampled(), size[0], size[1], accepting(100)...)
					n, err := r.s.Run(math.MaxInt)
					want := body(render(t, filler(length), sampled()), min(size[0], size[1]))
					want = want[:len(want)-len("0\r\n\r\n")]
					if err != fault.err || string(r.w.Bytes()) != want || !whole(r) || r.s.Done() || r.s.Err() != fault.err || r.m.Err() != fault.err || r.m.Status() != machine.Failed {
						t.Fatalf("%s: %d, %v, %+v", src, n, err, r.look())
					}
				}
			}
		}
	}
}
