package script_test

import (
	"fmt"
	"strings"
	"testing"

	"tmplpipe/api"
)

// TestModel has templates without an error, and with each error of the evaluation.
func TestModel(t *testing.T) { // P22.2
	data := []string{`data s "<\n>"`, "data n -5", "data yes true", "data no false", `data l ["a","b"]`, "data none []", `data m {s:"m&",l:[1]}`, "fail bad"}
	steps := "{{call a0}}"
	for i := range 15 { // each doubles the number of steps
		steps += strings.ReplaceAll(fmt.Sprintf("{{define a%d}}{{call a%d}}{{call a%d}}{{end}}", i, i+1, i+1), "{{call a15}}", "{{flush}}")
	}
	for _, c := range []struct{ src, want string }{
		{"", `"" steps 0`}, {"a", `"a" steps 1`}, {"x{{.s}}\xff", `"x&lt;\n&gt;\xff" steps 3`}, {"{{.n}}{{flush}}", `"-5" steps 2`}, {"{{if .yes}}y{{else}}n{{end}}{{if .no}}y{{end}}", `"y" steps 3`},
		{"{{range .l}}{{.}},{{end}}", `"a,b," steps 7`}, {"{{range .none}}x{{end}}", `"" steps 1`}, {"{{call f .m}}{{define f}}{{.s}}{{end}}", `"m&amp;" steps 2`}, {`<a href="{{.s}}" title='{{.s}}'>`, `"<a href=\"%3C%0A%3E\" title='&lt;\n&gt;'>" steps 5`},
		{"a{{.x}}b", `"a" steps 2 error 17`}, {"{{.x}}", `"" steps 1 error 17`}, {"{{.m.x}}", `"" steps 1 error 17`}, {"{{.bad}}", `"" steps 1 error 20`}, {"ab{{flush}}{{.bad}}", `"ab" steps 3 error 20`},
		{"{{.l}}", `"" steps 1 error 18`}, {"{{.yes}}", `"" steps 1 error 18`}, {"{{.}}", `"" steps 1 error 18`}, {"{{.s.x}}", `"" steps 1 error 18`}, {"{{if .n}}{{end}}", `"" steps 1 error 18`}, {"x{{range .m}}{{end}}", `"x" steps 2 error 18`},
		{"{{call f}}{{define f}}x{{call f}}{{end}}", `"xxxxxxxxxxxxxxxx" steps 33 error 19`}, {steps, `"" steps 20000 error 14`},
	} {
		s := session(t, append(data, source(c.src))...)
		says(t, s, "model", c.want, "model", c.want, "wire", "error 4", "report", "error 4", "size 1 1", "ok", "model", c.want, "open", "ok", "model", c.want)
	}
	text := strings.Repeat("y", 60000)
	says(t, session(t, `data l [1,2,3,4,5]`, source("{{range .l}}"+text+"{{end}}")), "model", `"`+strings.Repeat(text, 4)+`" steps 10 error 14`)
}

// TestModelRefused has configurations that are refused: the driver, if there is one, stays as it is.
func TestModelRefused(t *testing.T) { // P22.2
	for _, r := range refusals() {
		s := session(t, r.lines...)
		says(t, s, "model", r.want, "model", r.want, "wire", "error 4", "feed", "error 4", "open", r.want)
		s = session(t, `source "ab{{flush}}c"`, "size 2 2", "open")
		says(t, s, "feed 3 1", "error 10 4")
		for _, line := range r.lines {
			says(t, s, line, "ok")
		}
		before := answers(s, "wire", "payload", "report")
		says(t, s, "model", r.want, "wire", before[0], "payload", before[1], "report", before[2], "feed 3", "error 10 7", "model", r.want, "feed 99 99", "done 18", "payload", `"abc"`, "model", r.want, "wire", `"2\x0d\nab\x0d\n1\x0d\nc\x0d\n0\x0d\n\x0d\n"`)
	}
}

// TestModelBesideDriver has a driver with one configuration, and model with another.
func TestModelBesideDriver(t *testing.T) { // P22.2
	s := session(t, `source "{{.x}}{{.y}}"`, "data x 1", "open")
	says(t, s, "model", `"1" steps 2 error 17`, "report", "calls 0 actions 0 steps 0 chunks 0 flushes 0 pulls -", "feed", "error 10 0", "data y 2", "ok", "model", `"12" steps 2`, "feed 99", "error 17 6", "payload", `"1"`, "report", "calls 1 actions 5 steps 2 chunks 1 flushes 0 pulls x,y",
		`source "new"`, "ok", "fail x", "ok", "model", `"new" steps 1`, "payload", `"1"`, "feed", "error 17 6", "open", "ok", "feed 99 99", "done 13", "payload", `"new"`, "model", `"new" steps 1`)
}

// TestModelIsPayload compares model with the payloads of drivers with sizes and schedules of several kinds.
func TestModelIsPayload(t *testing.T) { // P22.5
	for _, src := range []string{"", "a", "{{flush}}", `ab{{.s}}{{flush}}{{range .l}}{{.}}{{flush}}x{{end}}<p title="{{.s}}">{{.n}}`, "{{range .l}}{{range .l}}{{flush}}\x00{{.a}}{{end}}{{end}}", strings.Repeat("x\r\n", 700) + "{{.s}}{{.n}}"} {
		for _, size := range []string{"1 1", "2 1", "3 4", "7 7", "65536 65536", "1024 3", "5 1024"} {
			for _, fed := range []string{"feed 9223372036854775807", "feed 1", "feed 2 0 3", "feed" + strings.Repeat(" 17", 40)} {
				s := session(t, `data s "<&\"\x0d\n'\xff>"`, "data n -120", `data l ["a","",7]`, source(src), "size "+size, "open")
				want, answer := s.Do("model"), ""
				for answer = s.Do(fed); strings.HasPrefix(answer, fmt.Sprintf("error %d ", int(api.ErrBlocked))); answer = s.Do(fed) {
				}
				got := s.Do("payload") + " steps " + strings.Fields(s.Do("report"))[5]
				if strings.HasPrefix(answer, "error ") {
					got += " " + strings.Join(strings.Fields(answer)[:2], " ")
				}
				if got != want {
					t.Fatalf("%q, %s, %s: %s %s, want %s", src, size, fed, answer, got, want)
				}
			}
		}
	}
}
