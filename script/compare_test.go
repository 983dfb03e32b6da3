package script_test

import (
	"fmt"
	"math"
	"strconv"
	"strings"
	"testing"

	"tmplpipe/api"
	"tmplpipe/script"
	"tmplpipe/value"
)

// numbers are irregular, but the same each time.
type numbers uint64

func (n *numbers) below(most int) int {
	*n = *n*6364136223846793005 + 1442695040888963407
	return int(uint64(*n)>>33) % most
}

// feed returns a line that feeds an irregular schedule, in which a failure is one of many outcomes.
func (n *numbers) feed(failures int) string {
	line := "feed"
	for range n.below(8) {
		outcome := []int{0, 1 + n.below(3), n.below(20), n.below(200)}[n.below(4)]
		if n.below(failures) == 0 {
			outcome = -1 - n.below(3)
		}
		line += " " + strconv.Itoa(outcome)
	}
	return line
}

// text returns an irregular string.
func (n *numbers) text() string {
	return []string{"", "<b>", "'/ ", "\xff\n", `"\`, strings.Repeat("&", n.below(40)), string([]byte{byte(n.below(256)), byte(n.below(256))})}[n.below(7)]
}

// object returns an irregular map: t and u are mostly bools, s and n are text, k and l are lists, and m is a map.
func (n *numbers) object(depth int) map[string]any {
	o := map[string]any{"t": n.below(2) == 0, "u": n.below(3) > 0, "s": n.text(), "n": n.below(2000) - 1000}
	if depth > 0 {
		o["m"] = n.object(depth - 1)
		o["k"] = n.list(depth-1, 5)
		o["l"] = n.list(depth-1, 3)
	}
	if n.below(50) == 0 {
		delete(o, []string{"t", "u", "s", "n", "k", "l", "m"}[n.below(7)])
	}
	return o
}

// list returns an irregular list of maps, with less than most items.
func (n *numbers) list(depth, most int) []any {
	l := []any{}
	for range n.below(most) {
		l = append(l, n.object(depth))
	}
	return l
}

// nodes returns the source of irregular nodes, with calls of the definitions d0, d1, and so on.
func (n *numbers) nodes(depth, definitions int) string {
	var b strings.Builder
	for range n.below(6) {
		kind := n.below(12)
		if depth == 0 {
			kind %= 6
		}
		print := []string{"{{.s}}", "{{.n}}", "{{.m.s}}", "{{ .m.m.n }}"}[n.below(4)]
		switch kind {
		case 0:
			b.WriteString([]string{"x", "<p>y</p>", "}}\n", "<!-- z -->"}[n.below(4)])
		case 1, 2:
			b.WriteString(print)
		case 3:
			b.WriteString([]string{"<a href='" + print + "'>", "<b title=\"{{if .t}}" + print + "{{else}}{{flush}}{{end}}\">", "<script>'{{range .l}}" + print + "{{end}}'</script>"}[n.below(3)])
		case 4:
			b.WriteString("{{flush}}")
		case 5:
			if definitions > 0 {
				b.WriteString("{{call d" + strconv.Itoa(n.below(definitions)) + []string{"", " .", " .m", " .m.m"}[n.below(4)] + "}}")
			}
		case 6, 7:
			b.WriteString("{{if ." + []string{"t", "u", "m.t"}[n.below(3)] + "}}" + n.nodes(depth-1, definitions) + "{{end}}")
		case 8, 9:
			b.WriteString("{{if .u}}" + n.nodes(depth-1, definitions) + "{{else}}" + n.nodes(depth-1, definitions) + "{{end}}")
		case 10, 11:
			b.WriteString("{{range ." + []string{"k", "l", "m.k"}[n.below(3)] + "}}" + n.nodes(depth-1, definitions) + "{{end}}")
		}
	}
	return b.String()
}

// template returns the source of an irregular template, with definitions among the main nodes. Some have a fault.
func (n *numbers) template() string {
	var b strings.Builder
	definitions := n.below(4)
	for i := range definitions {
		b.WriteString(n.nodes(n.below(3), definitions))
		b.WriteString("{{define d" + strconv.Itoa(i) + "}}" + n.nodes(n.below(3), definitions) + "{{end}}")
	}
	b.WriteString(n.nodes(n.below(4), definitions))
	if n.below(10) == 0 {
		b.WriteString([]string{"{{", "{{x}}", "{{.1}}", "{{end}}", "{{if .t}}", "{{define d0}}{{end}}", "{{call d9}}", "{{if .t}}<b {{end}}", "<!--", "<{{.s}}"}[n.below(10)])
	}
	return b.String() + n.nodes(n.below(2), definitions)
}

// configuration returns lines for an irregular configuration. Some have failing names, no data, or what open refuses.
func (n *numbers) configuration() []string {
	v, _ := value.From(n.object(3))
	lines := []string{source(n.template()), fmt.Sprint("size ", 1+n.below(40), " ", 1+n.below(40))}
	for _, f := range v.Fields {
		lines = append(lines, "data "+f.Key+" "+written(f.Value))
	}
	switch n.below(30) {
	case 0:
		lines = append(lines, "fail none", "fail s")
	case 1:
		lines = append(lines, "fail l", "fail m", "fail l")
	case 2:
		lines = lines[:2]
	case 3:
		lines = append(lines, []string{"size 0 1", "size 1 -1", "size 65537 1"}[n.below(3)])
	case 4:
		lines = append(lines, lines[2+n.below(len(lines)-2)])
	}
	return lines
}

// TestIrregularTemplates has irregular templates with irregular data, sizes and schedules: what is delivered is what model
// answers, if the driver comes to its end.
func TestIrregularTemplates(t *testing.T) { // P22.2, P22.5, P3
	n := numbers(22)
	count := map[string]int{}
	for i := range 900 {
		q := paired()
		for _, line := range n.configuration() {
			q.do(t, line)
		}
		model := q.do(t, "model")
		if answer := q.do(t, "open"); answer != "ok" {
			if answer != model || q.do(t, "feed") != "error 4" {
				t.Fatal(answer, model)
			}
			count["refused by "+kind(answer)]++
			continue
		}
		failures, answer := []int{15, 200, math.MaxInt}[i%3], "error 10 "
		for left := 3 + n.below(100); left > 0 && strings.HasPrefix(answer, "error 10 "); left-- {
			answer = q.do(t, n.feed(failures))
			if question := []string{"payload", "wire", "report", "model", "feed"}[n.below(5)]; question == "payload" {
				checkPayload(t, model, q.do(t, question))
			} else {
				q.do(t, question)
			}
		}
		for range 2 {
			if again := q.do(t, n.feed(5)); again != answer && !strings.HasPrefix(answer, "error 10 ") {
				t.Fatal(again, answer)
			}
		}
		count[kind(answer)]++
		want := q.do(t, "payload") + " steps " + strings.Fields(q.do(t, "report"))[5]
		switch kind(answer) {
		case "error 9", "error 10":
			continue
		case "done":
		default:
			want += " " + kind(answer)
		}
		if model != want {
			t.Fatalf("%s, %s, want %s", answer, model, want)
		}
	}
	for _, answer := range []string{
		"done", "error 9", "error 10", "error 17", "error 19", "error 20", "refused by error 3", "refused by error 5", "refused by error 7", "refused by error 11",
		"refused by error 12", "refused by error 13", "refused by error 15", "refused by error 16",
	} {
		if count[answer] < 3 {
			t.Error(answer, count)
		}
	}
}

// kind is the first word of an answer, and if that is error, with its number.
func kind(answer string) string {
	words := strings.Fields(answer)
	if words[0] == "error" {
		return words[0] + " " + words[1]
	}
	return words[0]
}

// checkPayload checks that a payload is a prefix of what model answers.
func checkPayload(t *testing.T, model, payload string) {
	t.Helper()
	output, _ := script.Get(model[:strings.LastIndex(model, `"`)+1])
	delivered, err := script.Get(payload)
	if err != api.OK || !strings.HasPrefix(output.S, delivered.S) {
		t.Fatalf("%s, %s", model, payload)
	}
}

// line returns an irregular line. Some are changed so that many of these are none.
func (n *numbers) line() string {
	lines := []string{"size 9 9", "feed 99 99 99", "feed", "open", "open", "open", "wire", "payload", "report", "report", "model", "clear", "fail s", "fail other", "", "", "", "", ""}
	i := n.below(len(lines))
	line := lines[i]
	switch len(lines) - i {
	case 1:
		line = n.feed(30)
	case 2:
		line = source([]string{n.nodes(1, 0), n.nodes(2, 0), "a{{.s}}b{{flush}}c", "{{range .l}}{{.}}{{flush}}{{end}}"}[n.below(4)])
	case 3:
		line = "data " + []string{"s", "n", "l", "x_1"}[n.below(4)] + " " + []string{"1", "-20", `"<\n\xff"`, `[1,"b",3]`, "[]", "{a:true,b:{}}", "false"}[n.below(7)]
	case 4:
		line = fmt.Sprint("size ", n.below(8), " ", n.below(8))
	case 5:
		line = n.feed(math.MaxInt)
	}
	if n.below(10) > 0 {
		return line
	}
	i = n.below(len(line) + 1)
	return line[:i] + []string{" ", "0", "x", `"`, ",", "\n", "-", "]"}[n.below(8)] + line[min(len(line), i+n.below(2)):]
}

// TestIrregularScripts has sessions that execute irregular lines, two sessions side by side, and Run for the same lines.
func TestIrregularScripts(t *testing.T) { // P22.2, P22.3, P22.5, P2
	n := numbers(7)
	count := map[string]int{}
	for range 6000 {
		a, b := paired(), paired()
		var lines, answered []string
		for range n.below(40) {
			line := n.line()
			answer := a.do(t, line)
			if !strings.Contains(line, "\n") {
				lines, answered = append(lines, line), append(answered, answer+"\n")
			}
			word, _, _ := strings.Cut(line, " ")
			count[word+": "+kind(answer)]++
			b.do(t, n.line())
		}
		ran(t, strings.Join(lines, "\n"), strings.Join(answered, ""))
	}
	for _, answer := range []string{"wire: error 4", "payload: error 4", "report: error 4", "report: calls", "model: error 12", `model: ""`, `wire: ""`, "source: error 5", "data: error 5", "size: error 5", "feed: error 5"} {
		if count[answer] < 10 {
			t.Error(answer, count)
		}
	}
}

// TestSameAgain executes the same lines again, with other sessions before, beside and between.
func TestSameAgain(t *testing.T) { // P22.5, P2
	n := numbers(3)
	for range 1000 {
		var lines []string
		for range 30 {
			lines = append(lines, n.line())
		}
		want := answers(script.New(), lines...)
		first, second := script.New(), script.New()
		says(t, second, "clear", "ok")
		for i, line := range lines {
			says(t, first, line, want[i])
			if i >= 3 {
				says(t, second, lines[i-3], want[i-3])
			}
			script.Run(line)
		}
		says(t, first, "clear", "ok")
		for i, line := range lines {
			says(t, first, line, want[i])
		}
	}
}
