package script_test

import (
	"slices"
	"strings"
	"testing"

	"tmplpipe/script"
)

// setting is what the sessions of these tests have been told: with a driver in the midst, and settings that are not those of
// the driver.
var setting = []string{`source "ab{{.x}}c{{.y}}"`, "data x 5", "data y [1]", "size 3 2", "open", "feed 1 4", `source "{{.x}}{{.z}}"`, "fail q", "size 5 4"}

// settled returns a session with the setting, with its driver or without one.
func settled(withDriver bool) *pair {
	q := paired()
	for _, line := range setting {
		if withDriver || line != "open" {
			q.s.Do(line)
			q.x.answer(line)
		}
	}
	return q
}

// probe is what tells any two states of sessions from each other, as far as these tests have them.
var probe = []string{"wire", "report", "payload", "model", "feed 3", "report", "feed 99 99 99 99", "wire", "report", "open", "feed 2 99 99 99 99 99", "wire", "report", "data x 1", "open"}

// noLine checks that a line is answered by error 5, with and without a driver, and has no effect.
func noLine(t *testing.T, line string) {
	t.Helper()
	for _, withDriver := range []bool{false, true} {
		q := settled(withDriver)
		says(t, q.s, line, "error 5", line, "error 5")
		for _, line := range probe {
			q.do(t, line)
		}
	}
}

// TestNoLines has lines that do not have one of the forms.
func TestNoLines(t *testing.T) { // P22.2
	for _, line := range []string{
		"", " ", "\n", "\t", "\x00", "x", "ok", "error", "error 5", "help", "quit", "#", "1", `"a"`, "[]", "\xff", "feed;", "driver", "run",
		"source", "source ", `source  "a"`, ` source "a"`, `source "a" `, `source "a" "b"`, `source "a"b`, `source a`, `source 'a'`, `source 1`, `source true`, `source []`, `source ["a"]`, `source {}`, `source {a:"x"}`, `Source "a"`, `SOURCE "a"`, `source"a"`, "source\t\"a\"", "source \"a\nb\"", `source "\x41"`, `source "\x0A"`, `source "a`, `source a"`, "source \"a\"\n", `sources "a"`, `sourc "a"`,
		"data", "data ", "data x", "data x ", "data  1", "data x  1", "data  x 1", " data x 1", "data x 1 ", "data x 1 2", "data 1 x", "data x y", "data 1 1", "data _x 1", "data x.y 1", "data x: 1", `data "x" 1`, "data x 01", "data x +1", "data x -0", "data x [1, 2]", "data x [1,]", "data x {a:1,a:1}", `data x {"a":1}`, "data x True", "data x nil", "data x \"a\nb\"", "data x 9223372036854775808", "Data x 1", "datax 1", "data\tx 1", "data x\t1", "data " + strings.Repeat("n", 33) + " 1", "data \u00e4 1", "data x 1\n", "data x {a:1", "data x", "data x=1", "data x,1", `data x "`,
		"data x " + strings.Repeat("[", 33) + strings.Repeat("]", 33), "data x " + strings.Repeat("[", 32) + "1" + strings.Repeat("]", 32), "data x " + strings.Repeat("[", 9999),
		"fail", "fail ", "fail  x", " fail x", "fail x ", "fail x y", "fail x,y", "fail 1", "fail _", "fail _x", "fail x.y", `fail "x"`, "fail -", "Fail x", "FAIL x", "fail x\n", "fail\tx", "fails x", "fail " + strings.Repeat("n", 33), "fail \u00e4", "fail x!",
		"size", "size ", "size 1", "size 1 ", "size  1", "size 1  2", "size  1 2", " size 1 2", "size 1 2 ", "size 1 2 3", "size 1,2", "size x 1", "size 1 x", "size 01 1", "size 1 01", "size +1 1", "size 1 +1", "size -0 1", "size 1 -0", "size 1.0 1", "size 0x1 1", `size "1" 1`, `size 1 "2"`, "size true 1", "size [1] 2", "size [1,2]", "size 1\t2", "size 1 2\n", "size 9223372036854775808 1", "size 1 -9223372036854775809", "Size 1 2", "size1 2", "size - 1", "size 1 -",
		"open ", " open", "open\n", "open\r", "open x", "open open", "Open", "OPEN", "ope", "opens", "open 1", "open  ", "\topen", "o pen", `"open"`,
		"feed ", "feed  ", "feed  1", " feed", " feed 1", "feed 1 ", "feed 1  2", "feed 1,2", "feed x", "feed 1 x", "feed x 1", "feed 01", "feed 1 01", "feed +1", "feed -0", "feed 1 -0 2", "feed -", "feed --1", "feed 1.0", "feed 1e3", `feed "1"`, "feed true", "feed []", "feed [1]", "feed [1,2]", "feed {}", "feed\t1", "feed 1\t2", "feed\n", "feed 1\n", "feed 9223372036854775808", "feed 1 2 -9223372036854775809", "Feed", "FEED 1", "feeds", "feed1", "feed 1;", "feed ...", "feed N",
		"wire ", " wire", "wire 1", "wire x", "Wire", "wires", "wire\n", "wire wire", `wire "a"`,
		"payload ", " payload", "payload 1", "payload x", "Payload", "payloads", "pay load", "payload\n", "payload\x00",
		"report ", " report", "report 1", "report x", "Report", "reports", "report\n", "report calls",
		"model ", " model", "model 1", `model "a"`, "Model", "models", "model\n", "model x",
		"clear ", " clear", "clear 1", "clear x", "Clear", "clears", "clear\n", "clear data",
		"open\nfeed", "wire\nwire", "\nopen", "open feed 1", "ok ok", "\u00a0open", "open\u00a0",
	} {
		if described().answer(line) != "error 5" {
			t.Errorf("%q", line) // a fault in the tests
		}
		noLine(t, line)
	}
}

// forms has a line of each form, and several of some.
var forms = []string{
	`source "a b\n{{.x}}"`, `source ""`, `data x1 "a b"`, `data y_2 [1,{a:true,b:"\xff"}]`, "data x -10", "data Q {}", "fail x", "fail n_1", "size 1 2", "size -3 65536", "open", "feed", "feed 1", "feed 0 -12 30", "wire", "payload", "report", "model", "clear",
}

// TestChangedLines changes each byte of lines, removes it, and puts bytes before it, and compares the answers and the effects.
func TestChangedLines(t *testing.T) { // P22.2
	count := map[bool]int{}
	check := func(line string, withDriver bool) {
		q := settled(withDriver)
		count[q.do(t, line) == "error 5"]++
		for _, line := range probe[:6] {
			q.do(t, line)
		}
	}
	for i, line := range forms {
		check(line, true)
		check(line, false)
		for j := range len(line) + 1 {
			withDriver := (i+j)%2 == 0
			check(line[:j], withDriver)
			check(line[j:], withDriver)
			check(line[:j]+" "+line[j:], !withDriver)
			for k, c := range []byte(" \t\n\x00\"\\,]:-_019aAxZ{\x7f\xff") {
				check(line[:j]+string([]byte{c})+line[j:], (k+j)%2 == 0)
				if j < len(line) {
					check(line[:j]+string([]byte{c})+line[j+1:], (k+j)%2 == 1)
				}
			}
			if j < len(line) {
				check(line[:j]+line[j+1:], withDriver)
				check(line[:j]+string([]byte{line[j] ^ 32})+line[j+1:], !withDriver)
				check(line[:j]+string([]byte{line[j]})+line[j:], withDriver)
			}
		}
	}
	if count[true] < 1000 || count[false] < 1000 {
		t.Error(count)
	}
}

// TestWords has all lines of up to some words, separated by single spaces.
func TestWords(t *testing.T) { // P22.2
	words := []string{"source", "data", "fail", "size", "open", "feed", "wire", "payload", "report", "model", "clear", `"s"`, `"s`, `t"`, "x", "1", "-0", "-7", "[1]", "true", ""}
	count := map[string]int{}
	for _, withDriver := range []bool{false, true} {
		q := settled(withDriver)
		var more func(line string, left int)
		more = func(line string, left int) {
			if line != "open" && line != "clear" { // so that there is a driver all the time, or never
				count[kind(q.do(t, line))]++
			}
			if left > 0 {
				for _, w := range words {
					more(line+" "+w, left-1)
				}
			}
		}
		for _, w := range words {
			more(w, 2)
		}
		if got := q.do(t, "wire"); (got == "error 4") == withDriver {
			t.Error(got)
		}
	}
	if count["ok"] < 20 || count["error 4"] < 5 || count["error 5"] < 1000 {
		t.Error(count)
	}
}

// TestErrorFourOrFive has lines that need a driver, which there is not: those that have a fault are no lines.
func TestErrorFourOrFive(t *testing.T) { // P22.2
	for _, lines := range [][]string{nil, {`source "{{"`}, {"size 5 5", "data x 1"}} {
		s := session(t, lines...)
		for range 2 {
			for _, line := range []string{"feed", "feed 1", "feed -1 0 1", "feed 9223372036854775807", "feed -9223372036854775808", "wire", "payload", "report"} {
				says(t, s, line, "error 4", line+" ", "error 5", line+" x", "error 5", " "+line, "error 5", line+" 01", "error 5")
			}
			for _, line := range []string{"wire 1", "payload 1", "report 1", "feed 9223372036854775808", "feed 1 -9223372036854775809", "feed x", "Feed"} {
				says(t, s, line, "error 5")
			}
		}
	}
	s := session(t, "open")
	says(t, s, "feed", "error 10 0", "wire", `""`, "size 0 0", "ok", "open", "error 3 at 0", "feed", "error 4", "wire", "error 4", "payload", "error 4", "report", "error 4", "feed x", "error 5", "wire 1", "error 5")
}

// TestSpacesInStrings has strings with spaces, which are operands all the same, and with what looks like other operands.
func TestSpacesInStrings(t *testing.T) { // P22.2
	for _, s := range []string{" ", "  ", " a", "a ", "a b", " a  b ", `\" \"`, `\\ `, ` \\`, `\" x 1`, `x 1 \"y\"`, "open feed 1", `source \"a\"`, "1 2 3"} {
		says(t, script.New(), `source "`+s+`"`, "ok", `data x "`+s+`"`, "ok", `data y [" ","`+s+`",{a:"`+s+`"}]`, "ok", "model", `"`+s+`" steps 1`,
			`source "`+s+`" `, "error 5", `data x "`+s+`" `, "error 5", `data x  "`+s+`"`, "error 5", `fail "`+s+`"`, "error 5", `feed "`+s+`"`, "error 5", `size 1 "`+s+`"`, "error 5")
	}
}

// TestOrders executes lines in all orders.
func TestOrders(t *testing.T) { // P22.2, P22.5
	lines := []string{`source "a{{.x}}b"`, "data x 1", "size 2 2", "open", "feed 9 1", "report", "clear"}
	var more func(order []string)
	more = func(order []string) {
		q := paired()
		for _, line := range append(order, "model", "wire", "feed 9 9 9 9", "payload", "open", "feed 99") {
			q.do(t, line)
		}
		for _, line := range lines {
			if !slices.Contains(order, line) {
				more(append(order[:len(order):len(order)], line))
			}
		}
	}
	more(nil)
}
