package script_test

import (
	"fmt"
	"strings"
	"testing"
)

// TestFeed feeds a driver again and again. All answers were written down action by action.
func TestFeed(t *testing.T) { // P22.2
	says(t, session(t, `source "a{{.x}}"`, `data x "<"`, "size 2 2", "open"),
		"feed", "error 10 0", "report", "calls 0 actions 5 steps 2 chunks 1 flushes 0 pulls x",
		"feed 9 9", "error 10 14", "wire", `"2\x0d\na&\x0d\n2\x0d\nlt\x0d\n"`, "payload", `"a&lt"`, "report", "calls 2 actions 12 steps 2 chunks 3 flushes 0 pulls x",
		"feed 5", "error 10 19", "wire", `"2\x0d\na&\x0d\n2\x0d\nlt\x0d\n1\x0d\n;\x0d"`, "payload", `"a&lt;"`, "report", "calls 3 actions 13 steps 2 chunks 3 flushes 0 pulls x",
		"feed 0 0", "error 10 19", "report", "calls 5 actions 15 steps 2 chunks 3 flushes 0 pulls x",
		"feed 1 4", "error 10 24", "report", "calls 7 actions 18 steps 2 chunks 3 flushes 0 pulls x", "payload", `"a&lt;"`,
		"feed 7 8 9", "done 25", "wire", `"2\x0d\na&\x0d\n2\x0d\nlt\x0d\n1\x0d\n;\x0d\n0\x0d\n\x0d\n"`, "payload", `"a&lt;"`, "report", "calls 8 actions 19 steps 2 chunks 3 flushes 0 pulls x",
		"feed", "done 25", "feed -1 9", "done 25", "report", "calls 8 actions 19 steps 2 chunks 3 flushes 0 pulls x")
	says(t, session(t, `source "{{flush}}ab{{flush}}"`, "open"), "feed 3 -1 9", "error 9 3", "wire", `"2\x0d\n"`, "payload", `""`, "report", "calls 2 actions 7 steps 3 chunks 1 flushes 1 pulls -",
		"feed", "error 9 3", "feed 9 9 9", "error 9 3", "wire", `"2\x0d\n"`, "report", "calls 2 actions 7 steps 3 chunks 1 flushes 1 pulls -")
	says(t, session(t, `source "ab{{.x}}c{{.y}}"`, "data x 5", "fail q", "open"), "feed 4", "error 10 4", "payload", `"a"`, "report", "calls 1 actions 9 steps 4 chunks 1 flushes 0 pulls x,y",
		"feed 99", "error 17 9", "wire", `"4\x0d\nab5c\x0d\n"`, "report", "calls 2 actions 10 steps 4 chunks 1 flushes 0 pulls x,y", "feed 9", "error 17 9", "feed -1", "error 17 9", "report", "calls 2 actions 10 steps 4 chunks 1 flushes 0 pulls x,y", "payload", `"ab5c"`)
	says(t, session(t, `source "ab{{.x}}c"`, "fail x", "open"), "feed 99 99", "error 20 7", "wire", `"2\x0d\nab\x0d\n"`, "report", "calls 1 actions 5 steps 2 chunks 1 flushes 0 pulls x", "payload", `"ab"`)
	says(t, session(t, `source "{{.x}}"`, "data x []", "open"), "feed", "error 18 0", "feed 9", "error 18 0", "wire", `""`, "payload", `""`, "report", "calls 0 actions 1 steps 1 chunks 0 flushes 0 pulls x")
}

// bodies are configurations with their bodies, in which the payload is marked by brackets.
func bodies() []struct {
	lines []string
	body  string
} {
	return []struct {
		lines []string
		body  string
	}{
		{nil, "0|"},
		{[]string{`source "a"`}, "1|[a]|0|"},
		{[]string{`source "a{{.x}}\n"`, `data x "<"`, "size 9 2"}, "2|[a&]|2|[lt]|2|[;\n]|0|"},
		{[]string{`source "abcdefghijklmnopqrstuvwxyz{{flush}}{{flush}}\xff\x00"`, "size 100 26"}, "1a|[abcdefghijklmnopqrstuvwxyz]|2|[\xff\x00]|0|"},
		{[]string{`source "{{range .l}}{{.}}{{flush}}{{end}}"`, "data l [10,2,-3]", "size 3 3"}, "2|[10]|1|[2]|2|[-3]|0|"},
		{[]string{`source "0{{flush}}\x0d\n\x0d\n{{flush}}0\x0d\n"`, "size 4 4"}, "1|[0]|4|[\r\n\r\n]|3|[0\r\n]|0|"},
	}
}

// TestEveryByte delivers bodies byte by byte, and in pieces, and looks at the bytes and at the payload after each.
func TestEveryByte(t *testing.T) { // P22.2
	for _, b := range bodies() {
		for _, step := range []int{1, 2, 3, 5, 7} {
			s := session(t, append(b.lines, "open")...)
			wire, payload, answer, inside := "", "", "", false
			checked := func() {
				t.Helper()
				says(t, s, "wire", written(str(wire)), "payload", written(str(payload)), "payload", written(str(payload)), "wire", written(str(wire)))
			}
			checked()
			for _, c := range []byte(b.body + "|") {
				piece := string([]byte{c})
				switch {
				case c == '[' || c == ']':
					inside = c == '['
					continue
				case c == '|':
					piece = "\r\n"
				case inside:
					payload += piece
				}
				for i := range len(piece) {
					if wire += piece[i : i+1]; step == 1 {
						answer = s.Do("feed 1")
						checked()
					}
				}
			}
			for range len(wire) * (step - 1) { // enough for all
				answer = s.Do(fmt.Sprint("feed ", step))
			}
			if want := fmt.Sprint("done ", len(wire)); answer != want {
				t.Fatalf("%q, %d at a time: %q, want %q", b.body, step, answer, want)
			}
			checked()
		}
	}
}

// TestFeedNumbers has the least and the greatest numbers, and very many.
func TestFeedNumbers(t *testing.T) { // P22.2
	lines := []string{`source "abc"`, "open"}
	for _, c := range []struct{ fed, want, wire string }{
		{"feed 9223372036854775807 9223372036854775807", "done 13", `"3\x0d\nabc\x0d\n0\x0d\n\x0d\n"`}, {"feed -9223372036854775808", "error 9 0", `""`}, {"feed 4 -9223372036854775808 9", "error 9 4", `"3\x0d\na"`}, {"feed -1 9 9", "error 9 0", `""`},
		{"feed 0", "error 10 0", `""`}, {"feed 0 0 0 0 2", "error 10 2", `"3\x0d"`}, {"feed 8 5", "done 13", `"3\x0d\nabc\x0d\n0\x0d\n\x0d\n"`}, {"feed 8 5 -1", "done 13", `"3\x0d\nabc\x0d\n0\x0d\n\x0d\n"`}, {"feed 8 4 -1", "error 9 12", `"3\x0d\nabc\x0d\n0\x0d\n\x0d"`},
		{"feed" + strings.Repeat(" 1", 13), "done 13", `"3\x0d\nabc\x0d\n0\x0d\n\x0d\n"`}, {"feed" + strings.Repeat(" 1", 12), "error 10 12", `"3\x0d\nabc\x0d\n0\x0d\n\x0d"`}, {"feed" + strings.Repeat(" 0", 100000) + " 9", "error 10 8", `"3\x0d\nabc\x0d\n"`},
		{"feed 4294967296", "error 10 8", `"3\x0d\nabc\x0d\n"`}, {"feed -4294967296", "error 9 0", `""`},
	} {
		says(t, session(t, lines...), c.fed, c.want, "wire", c.wire)
	}
}

// TestFeedOrder has numbers of which each counts in its place.
func TestFeedOrder(t *testing.T) { // P22.2
	for i := range 4 {
		for j := range 4 {
			for k := range 4 {
				whole, parts, lengths := session(t, `source "abcdefgh"`, "open"), session(t, `source "abcdefgh"`, "open"), []int{i, j, k}
				sum := 0
				for _, n := range lengths {
					sum += n
					says(t, parts, fmt.Sprint("feed ", n), fmt.Sprint("error 10 ", sum))
				}
				says(t, whole, fmt.Sprintf("feed %d %d %d", i, j, k), fmt.Sprint("error 10 ", sum), "wire", parts.Do("wire"), "report", parts.Do("report"))
				cut := session(t, `source "abcdefgh"`, "open")
				says(t, cut, fmt.Sprintf("feed %d %d -1 %d", i, j, k), fmt.Sprint("error 9 ", i+j))
			}
		}
	}
}

// TestReport has reports at each stage, with no pulled name, one and several, in the order in which they were pulled.
func TestReport(t *testing.T) { // P22.2
	says(t, session(t, `source "a{{flush}}{{.z}}{{flush}}{{.y}}{{.z.k}}{{flush}}{{.a_1}}"`, "data a_1 1", "data y 2", "data z 3", "open"),
		"report", "calls 0 actions 0 steps 0 chunks 0 flushes 0 pulls -", "feed", "error 10 0", "report", "calls 0 actions 4 steps 2 chunks 1 flushes 0 pulls -",
		"feed 6", "error 10 6", "report", "calls 1 actions 10 steps 4 chunks 2 flushes 1 pulls z", "feed 6", "error 10 12", "report", "calls 2 actions 16 steps 6 chunks 3 flushes 2 pulls z,y", "feed 5 1", "error 18 18", "report", "calls 4 actions 18 steps 6 chunks 3 flushes 2 pulls z,y", "report", "calls 4 actions 18 steps 6 chunks 3 flushes 2 pulls z,y")
	says(t, session(t, `source "{{if .t}}{{.b}}{{else}}{{.c}}{{end}}{{range .l}}{{.x}}{{end}}{{.missing}}"`, "data c 1", "data t false", "data l [{x:1},{x:2}]", "data unused 1", "open"),
		"feed 99", "error 17 8", "report", "calls 1 actions 13 steps 8 chunks 1 flushes 0 pulls t,c,l,missing", "payload", `"112"`)
	says(t, session(t, `source "{{.x}}{{.x}}{{.x}}"`, "data x 1", "open"), "feed 99 99", "done 13", "report", "calls 2 actions 11 steps 3 chunks 1 flushes 0 pulls x")
	says(t, session(t, `source "{{.y}}"`, "fail y", "open"), "feed 99 99", "error 20 0", "report", "calls 0 actions 1 steps 1 chunks 0 flushes 0 pulls y")
	says(t, session(t, `source "{{.}}"`, "open"), "feed 99 99", "error 18 0", "report", "calls 0 actions 1 steps 1 chunks 0 flushes 0 pulls -")
	says(t, session(t, `source "{{flush}}{{flush}}{{flush}}"`, "open"), "feed 5", "done 5", "report", "calls 1 actions 9 steps 3 chunks 0 flushes 3 pulls -")
}

// TestAsking checks that the lines that only ask have no effect.
func TestAsking(t *testing.T) { // P22.2
	lines := []string{"feed", "feed 1", "feed 3 0", "feed 9", "feed 9 9 9", "feed 1 1 1 1 1 1 1 1", "feed 99 99 99"}
	for _, setting := range [][]string{{`source "ab{{.x}}{{flush}}cd"`, "data x 1", "size 3 2", "open"}, {`source "ab{{.x}}{{flush}}cd"`, "open"}, {`source "{{range .l}}{{.}};{{end}}"`, "data l [1,2,3]", "open"}} {
		plain, asked := session(t, setting...), session(t, setting...)
		for _, line := range lines {
			for _, question := range []string{"report", "wire", "payload", "model", "report", "model", "payload", "wire"} {
				if first, again := asked.Do(question), asked.Do(question); first != again {
					t.Fatalf("%s: %q, then %q", question, first, again)
				}
			}
			says(t, asked, line, plain.Do(line))
		}
		for _, question := range []string{"report", "wire", "payload", "model"} {
			says(t, asked, question, plain.Do(question))
		}
	}
}
