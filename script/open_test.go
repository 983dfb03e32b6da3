package script_test

import (
	"fmt"
	"math"
	"slices"
	"strings"
	"testing"

	"tmplpipe/api"
	"tmplpipe/script"
)

// refusal has lines behind which open and model refuse the configuration, with their answer.
type refusal struct {
	lines []string
	want  string
}

// source is the line for a source.
func source(src string) string { return "source " + written(str(src)) }

// refusals has each error of the compilation, with its position, of the provider and of the sizes, and several at a time.
func refusals() []refusal {
	var definitions strings.Builder
	for i := range api.MaxDefines + 1 {
		fmt.Fprintf(&definitions, "{{define d%d}}{{end}}", 100+i)
	}
	var all []refusal
	for _, f := range []struct {
		src  string
		want string
	}{
		{strings.Repeat("a", api.MaxTemplate+1), "error 6 at 0"},
		{"{{.x", "error 7 at 0"}, {"ab{{.x} }", "error 7 at 2"}, {"{{.x}}\n{{", "error 7 at 7"}, {"\xff\x00{{", "error 7 at 2"},
		{"{{if}}", "error 5 at 0"}, {"a{{x}}", "error 5 at 1"}, {"{{flush}}{{}}", "error 5 at 9"}, {strings.Repeat("a", 12345) + "{{x}}", "error 5 at 12345"},
		{"{{.x.}}", "error 11 at 0"}, {"abc{{if .1}}{{end}}", "error 11 at 3"}, {"{{define f-}}{{end}}", "error 11 at 0"},
		{"{{end}}", "error 13 at 0"}, {"x{{end}}", "error 13 at 1"}, {"{{range .l}}{{else}}{{end}}", "error 13 at 12"}, {"{{if .a}}{{define f}}{{end}}{{end}}", "error 13 at 9"},
		{strings.Repeat("{{if .a}}", 33) + strings.Repeat("{{end}}", 33), "error 13 at 288"}, {strings.Repeat("{{flush}}", api.MaxNodes+1), "error 14 at 36864"},
		{"{{if .a}}", "error 7 at 0"}, {"x{{range .l}}y{{if .a}}{{else}}", "error 7 at 14"},
		{"{{define f}}{{end}}x{{define f}}{{end}}", "error 12 at 20"}, {definitions.String(), "error 14 at 1408"},
		{"{{call f}}", "error 11 at 0"}, {"a{{if .a}}{{call g}}{{end}}{{define f}}{{end}}", "error 11 at 10"},
		{"<{{.s}}", "error 15 at 1"}, {"<a {{.s}}>", "error 15 at 3"}, {"<!--{{.s}}-->", "error 15 at 4"}, {`<p title="{{call f}}">{{define f}}{{end}}`, "error 15 at 10"},
		{"{{if .a}}<b {{end}}x", "error 16 at 0"}, {"a{{range .l}}<b>'<i{{end}}", "error 16 at 1"}, {"ab{{define f}}<{{end}}", "error 16 at 2"}, {"a{{flush}}<b", "error 16 at 10"},
	} {
		all = append(all, refusal{[]string{source(f.src)}, f.want})
		if len(f.src) < 100 {
			all = append(all, refusal{[]string{source(f.src), "data x 1", "data x 1", "size 0 0"}, f.want}) // the first error counts
		}
	}
	deep := "data z " + strings.Repeat("[", 32) + strings.Repeat("]", 32)
	return append(all, []refusal{
		{[]string{"data x 1", "data x 1"}, "error 12 at 0"}, {[]string{"data x 1", "data y 2", `data x "3"`, "size 0 0"}, "error 12 at 0"},
		{[]string{deep}, "error 13 at 0"}, {[]string{"data x 1", deep, "data x 1", "size 0 1"}, "error 13 at 0"}, {[]string{"data x 1", "data x 1", deep}, "error 12 at 0"},
		{[]string{"size 0 1"}, "error 3 at 0"}, {[]string{"size 1 0"}, "error 3 at 0"}, {[]string{"size 65537 1"}, "error 3 at 0"}, {[]string{"size 1 65537"}, "error 3 at 0"}, {[]string{"size -9223372036854775808 9223372036854775807"}, "error 3 at 0"}, {[]string{"fail x", "data x 1", "size 1 -1"}, "error 3 at 0"},
	}...)
}

// TestOpenRefused has sessions with a driver and without one: afterwards there is none. What refuses the configuration is
// not changed by it.
func TestOpenRefused(t *testing.T) { // P22.2
	for _, r := range refusals() {
		s := session(t, r.lines...)
		for range 2 {
			says(t, s, "open", r.want, "feed", "error 4", "feed 1 2", "error 4", "wire", "error 4", "payload", "error 4", "report", "error 4", "model", r.want)
		}
		for _, fed := range []string{"feed", "feed 1", "feed 99", "feed -1"} {
			s = session(t, "open")
			s.Do(fed)
			for _, line := range r.lines {
				says(t, s, line, "ok")
			}
			if s.Do("wire") == "error 4" {
				t.Fatalf("%.100q: no driver before open", r.lines)
			}
			says(t, s, "open", r.want, "feed", "error 4", "wire", "error 4", "payload", "error 4", "report", "error 4", "open", r.want, "clear", "ok", "open", "ok", "feed 9", "done 5")
		}
	}
}

// TestOpenAccepted has configurations that are just not refused.
func TestOpenAccepted(t *testing.T) { // P22.2
	for _, lines := range [][]string{
		{source(strings.Repeat("a", api.MaxTemplate))}, {source(strings.Repeat("{{flush}}", api.MaxNodes))}, {source(strings.Repeat("{{if .a}}", 32) + strings.Repeat("{{end}}", 32))}, {source("{{.none}}{{call f}}{{define f}}{{call f}}{{end}}")},
		{"size 1 1"}, {"size 65536 65536"}, {"size 1 65536"}, {"size 65536 1"}, {"data x " + strings.Repeat("[", 31) + strings.Repeat("]", 31)}, {"fail x", "fail x", "data x 1"},
	} {
		says(t, session(t, lines...), "open", "ok", "wire", `""`, "report", "calls 0 actions 0 steps 0 chunks 0 flushes 0 pulls -")
	}
}

// TestOpenAgain has drivers, one after the other, each of which begins anew.
func TestOpenAgain(t *testing.T) { // P22.2
	s := session(t, `source "{{.x}}"`, `data x "ab"`, "open")
	for range 3 {
		says(t, s, "feed 2", "error 10 2", "wire", `"2\x0d"`, "report", "calls 1 actions 5 steps 1 chunks 1 flushes 0 pulls x", "open", "ok", "wire", `""`, "report", "calls 0 actions 0 steps 0 chunks 0 flushes 0 pulls -",
			"feed -1", "error 9 0", "feed 9 9", "error 9 0", "open", "ok", "feed 9 9", "done 12", "open", "ok", "feed", "error 10 0")
	}
}

// TestOpenKeepsConfiguration has lines that do not affect the driver that is open, but the next one.
func TestOpenKeepsConfiguration(t *testing.T) { // P22.2
	before := []string{`source "a{{.x}}{{flush}}{{range .l}}{{.}}{{end}}{{.y}}"`, `data x "<"`, "data l [1,2,3]", "size 3 2"}
	after := []string{`source "b"`, `source "{{"`, "data y 5", "data x 7", "fail x", "fail l", "fail y", "size 9 9", "size 0 0", "model", "wire", "open x", "data x", "payload", "report"}
	feeds := []string{"feed", "feed 1", "feed 0 3", "feed 2 2 2", "report", "payload", "feed 9 9 9 9 9 9 9 9", "wire", "payload", "report"}
	want := answers(session(t, append(before, "open")...), feeds...)
	if last := len(want) - 1; want[last-1] != `"a&lt;123"` || want[last] != "calls 10 actions 33 steps 11 chunks 5 flushes 1 pulls x,l,y" {
		t.Error(want[last-1:])
	}
	for i := range feeds {
		for _, line := range after {
			s := session(t, append(before, "open")...)
			got := answers(s, feeds[:i]...)
			s.Do(line)
			if got = append(got, answers(s, feeds[i:]...)...); !slices.Equal(got, want) {
				t.Fatalf("%q before %q: %q, want %q", line, feeds[i], got, want)
			}
		}
		s := session(t, append(before, "open")...)
		got := answers(s, feeds[:i]...)
		answers(s, after...)
		if got = append(got, answers(s, feeds[i:]...)...); !slices.Equal(got, want) {
			t.Fatalf("all before %q: %q, want %q", feeds[i], got, want)
		}
		says(t, s, "open", "error 7 at 0", "wire", "error 4", `source "b"`, "ok", "open", "error 12 at 0")
	}
}

// TestOpenNumbers has numbers of bytes and actions that have several digits.
func TestOpenNumbers(t *testing.T) { // P22.2
	s := session(t, source(strings.Repeat("x", 60000)), "size 65536 65536", "open")
	says(t, s, "feed 9223372036854775807", "error 10 60008", "report", "calls 1 actions 6 steps 1 chunks 1 flushes 0 pulls -", fmt.Sprint("feed ", math.MinInt64), "error 9 60008", "report", "calls 2 actions 6 steps 1 chunks 1 flushes 0 pulls -")
	s = session(t, source(strings.Repeat("x", 1000)), "size 1 1", "open")
	says(t, s, "feed"+strings.Repeat(" 6", 900), "error 10 5400", "report", "calls 900 actions 2703 steps 1 chunks 901 flushes 0 pulls -", "feed"+strings.Repeat(" 6", 101), "done 6005", "report", "calls 1001 actions 3004 steps 1 chunks 1000 flushes 0 pulls -")
	if payload := script.New().Do("payload"); payload != "error 4" {
		t.Error(payload)
	}
}
