package script_test

import (
	"strings"
	"testing"

	"tmplpipe/api"
	"tmplpipe/escape"
	"tmplpipe/script"
)

// TestExample has the lines of the chapter.
func TestExample(t *testing.T) { // P22.2
	says(t, script.New(), `source "a{{.x}}"`, "ok", `data x "<"`, "ok", "open", "ok", "feed 99 99", "done 15", "payload", `"a&lt;"`)
}

// TestInitial has a session that has not been told anything.
func TestInitial(t *testing.T) { // P22.2
	says(t, script.New(), "model", `"" steps 0`, "feed", "error 4", "wire", "error 4", "payload", "error 4", "report", "error 4",
		"open", "ok", "report", "calls 0 actions 0 steps 0 chunks 0 flushes 0 pulls -", "wire", `""`, "payload", `""`,
		"feed", "error 10 0", "feed 9", "done 5", "wire", `"0\x0d\n\x0d\n"`, "payload", `""`, "report", "calls 1 actions 3 steps 0 chunks 0 flushes 0 pulls -")
	// The sizes are 1024.
	text := strings.Repeat("a", 1025)
	says(t, script.New(), `source "`+text+`"`, "ok", "open", "ok", "feed 1", "error 10 1", "wire", `"4"`, "feed 2000", "error 10 1031", "wire", `"400\x0d\n`+text[1:]+`\x0d\n"`, "feed 9 9", "done 1042")
	says(t, session(t, `source "`+text+`"`, "size 2000 1024", "open"), "feed 2000", "error 10 1031")
	says(t, session(t, `source "`+text+`"`, "size 1024 2000", "open"), "feed 2000", "error 10 1031")
	says(t, session(t, `source "`+text+`"`, "size 2000 2000", "open"), "feed 2000", "error 10 1032", "wire", `"401\x0d\n`+text+`\x0d\n"`)
	if a, b := script.New(), script.New(); a == b || a == nil {
		t.Error("not a new session")
	}
}

// TestSource has sources, of which the last one counts.
func TestSource(t *testing.T) { // P22.2
	for _, l := range literals() {
		want := "error 5"
		if strings.HasPrefix(l.s, `"`) {
			want = "ok"
		}
		says(t, script.New(), "source "+l.s, want)
	}
	s := script.New()
	says(t, s, `source "a"`, "ok", "model", `"a" steps 1`, `source "b c  d "`, "ok", "model", `"b c  d " steps 1`, `source "{{flush}}\n\"\\\x00\xff{{flush}}"`, "ok", "model", `"\n\"\\\x00\xff" steps 3`,
		`source a`, "error 5", "model", `"\n\"\\\x00\xff" steps 3`, `source ""`, "ok", "model", `"" steps 0`, `source " "`, "ok", "open", "ok", "feed 9 9", "done 11", "payload", `" "`)
	says(t, script.New(), `source "{{.x`, "error 5", `source "{{.x"`, "ok", "open", "error 7 at 0", `source "{{ .x }}"`, "ok", "open", "ok")
	says(t, script.New(), `source "{{if .a}}b{{else}}c{{end}}"`, "ok", "data a false", "ok", "model", `"c" steps 2`)
}

// TestData has fields of all kinds of values, in order.
func TestData(t *testing.T) { // P22.2
	for _, l := range literals() {
		says(t, script.New(), "data x "+l.s, "ok", "open", "ok", `source "{{.x}}"`, "ok", "model", shownBy(l))
	}
	says(t, script.New(), `source "{{.x}}{{.y}}"`, "ok", `data y " a b "`, "ok", "data x -5", "ok", "model", `"-5 a b " steps 2`, "data z [1]", "ok", "model", `"-5 a b " steps 2`)
	says(t, script.New(), `source "{{range .l}}{{.a}};{{end}}"`, "ok", `data l [{a:"<"},{b:1,a:2}]`, "ok", "model", `"&lt;;2;" steps 7`)
	says(t, script.New(), "data x 1", "ok", "model", `"" steps 0`, "data x 1", "ok", "model", "error 12 at 0", "open", "error 12 at 0", "data y 1", "ok", "open", "error 12 at 0", "clear", "ok", "data x 1", "ok", "open", "ok")
	says(t, script.New(), "data x 1", "ok", "data y 1", "ok", "data X 1", "ok", "open", "ok", "data x [2]", "ok", "open", "error 12 at 0")
	deep := strings.Repeat("[", 31) + strings.Repeat("]", 31) // a field of a map is deeper than the map
	says(t, script.New(), "data x "+deep, "ok", "open", "ok", "data x ["+deep+"]", "ok", "open", "error 12 at 0", "data y [["+deep+"]]", "error 5")
	says(t, script.New(), "data x ["+deep+"]", "ok", "open", "error 13 at 0", "model", "error 13 at 0", "data x 1", "ok", "open", "error 13 at 0")
}

// shownBy is what model answers for a template that prints a value.
func shownBy(l literal) string {
	switch l.s[0] {
	case '[', '{', 't', 'f':
		return `"" steps 1 error 18`
	case '"':
		escaped, _ := escape.Escape(api.EscText, l.v.S)
		return written(str(escaped)) + " steps 1"
	}
	return `"` + l.s + `" steps 1`
}

// TestFail has failing names, also several times, and those of fields.
func TestFail(t *testing.T) { // P22.2
	s := session(t, `source "{{.x}}{{.y}}"`, "data x 1", "data y 2")
	says(t, s, "model", `"12" steps 2`, "fail y", "ok", "model", `"1" steps 2 error 20`, "fail y", "ok", "model", `"1" steps 2 error 20`, "fail z", "ok", "model", `"1" steps 2 error 20`,
		"fail x", "ok", "model", `"" steps 1 error 20`, "fail 1", "error 5", "model", `"" steps 1 error 20`, "open", "ok", "feed 9 9", "error 20 0", "report", "calls 0 actions 1 steps 1 chunks 0 flushes 0 pulls x")
	name := strings.Repeat("n", 32)
	says(t, script.New(), "fail "+name, "ok", "fail "+name+"n", "error 5", "fail a_1", "ok", "fail true", "ok", "fail", "error 5", "open", "ok")
}

// TestSize has sizes within their limits and beyond. Those beyond are taken, but open refuses them.
func TestSize(t *testing.T) { // P22.2
	s := session(t, `source "abcdef"`)
	for _, size := range []string{"0 1", "1 0", "-1 5", "5 -1", "65537 1", "1 65537", "9223372036854775807 1", "1 -9223372036854775808", "0 0", "4294967297 4294967297"} {
		says(t, s, "size "+size, "ok", "model", "error 3 at 0", "open", "error 3 at 0", "feed 9", "error 4")
	}
	says(t, s, "size 1 1", "ok", "open", "ok", "size 65536 65536", "ok", "open", "ok", "size 1 65536", "ok", "open", "ok", "size 65536 1", "ok", "open", "ok")
	for _, c := range []struct{ size, wire string }{
		{"1 1", `"1\x0d\na\x0d\n1\x0d\n"`}, {"2 1", `"1\x0d\na\x0d\n1\x0d\n"`}, {"1 2", `"1\x0d\na\x0d\n1\x0d\n"`}, {"2 2", `"2\x0d\nab\x0d\n2\x0d"`}, {"3 2", `"2\x0d\nab\x0d\n2\x0d"`}, {"2 3", `"2\x0d\nab\x0d\n2\x0d"`}, {"6 4", `"4\x0d\nabcd\x0d\n2"`}, {"4 6", `"4\x0d\nabcd\x0d\n2"`}, {"9 9", `"6\x0d\nabcdef\x0d\n"`},
	} {
		says(t, s, "size "+c.size, "ok", "open", "ok")
		for len(s.Do("wire")) < len(c.wire) {
			s.Do("feed 1")
		}
		says(t, s, "wire", c.wire)
	}
	says(t, s, "size 7 8", "ok", "size 7", "error 5", "size 0", "error 5", "size 0 x", "error 5", "open", "ok", "size 0 9", "ok", "size 9 1", "ok", "open", "ok", "feed 4 2", "error 10 6", "wire", `"1\x0d\na\x0d\n"`)
}

// TestClear has sessions with and without a driver, which clear makes as they were initially.
func TestClear(t *testing.T) { // P22.2, P22.5
	lines := []string{`source "{{.x}}"`, "data x 5", "fail y", "size 1 2", "open", "feed 1", "feed 9 9 9", "feed -1", "data x 6", "fail x", "size 0 0", `source "{{"`, "open"}
	probe := []string{"model", "wire", "feed", "open", "report", "feed 99", "wire", "data x 1", `source "{{.x}}` + strings.Repeat("a", 1024) + `"`, "model", "open", "feed 99 99999", "payload", "report", "wire", "feed 1 1 999 99", "wire"}
	want := answers(script.New(), probe...)
	for i := range len(lines) + 1 {
		s := script.New()
		for range 3 {
			answers(s, lines[:i]...)
			says(t, s, "clear", "ok", "wire", "error 4", "feed", "error 4")
			if got := answers(s, probe...); strings.Join(got, "\n") != strings.Join(want, "\n") {
				t.Fatalf("behind clear: %q, want %q", got, want)
			}
			says(t, s, "clear", "ok", "clear", "ok")
		}
	}
}

// TestNilSession has lines of all kinds, and others.
func TestNilSession(t *testing.T) { // P22.2
	var none *script.Session
	for _, line := range []string{"", "x", " ", `source "a"`, "data x 1", "fail x", "size 1 1", "open", "feed", "feed 1", "wire", "payload", "report", "model", "clear", "open ", "source"} {
		says(t, none, line, "error 1")
	}
}
