package compile_test

import (
	"fmt"
	"math"
	"slices"
	"strconv"
	"strings"
	"testing"

	"tmplpipe/api"
	"tmplpipe/compile"
	"tmplpipe/parse"
)

// opcodes are the words for opcodes in the notation of code, by their numbers.
func opcodes() []string {
	return []string{"text", "print", "if", "jump", "range", "next", "call", "ret", "flush", "halt"}
}

// escapers are the words for escapers in the notation of code, by their numbers.
func escapers() []string { return []string{"html", "attr", "url", "js", "css"} }

// coded reads code in a notation: the instructions are separated by bars. Behind the word of its opcode, text has the text,
// and the others have their operands: the path with a period before it, the word of the escaper, and the number To. All
// operands that are not there are zero, and HasPath is true for a call that has a path.
func coded(notation string) []api.Ins {
	var code []api.Ins
	if notation == "" {
		return nil
	}
	for _, s := range strings.Split(notation, "|") {
		op, rest, _ := strings.Cut(s, " ")
		ins := api.Ins{Op: slices.Index(opcodes(), op)}
		if op == "text" {
			ins.S, rest = rest, ""
		}
		for _, word := range strings.Fields(rest) {
			if to, err := strconv.Atoi(word); err == nil {
				ins.To = to
			} else if path, ok := strings.CutPrefix(word, "."); ok {
				ins.Path, ins.HasPath = path, op == "call"
			} else {
				ins.Esc = slices.Index(escapers(), word)
			}
		}
		code = append(code, ins)
	}
	return code
}

func TestNotation(t *testing.T) {
	got := coded("text a b|print .a.b css|print . html|if .t 4|call 7|call . 7|call .x 8|halt")
	want := []api.Ins{
		{Op: api.OpText, S: "a b"}, {Op: api.OpPrint, Path: "a.b", Esc: api.EscCSS}, {Op: api.OpPrint}, {Op: api.OpIf, Path: "t", To: 4},
		{Op: api.OpCall, To: 7}, {Op: api.OpCall, HasPath: true, To: 7}, {Op: api.OpCall, Path: "x", HasPath: true, To: 8}, {Op: api.OpHalt},
	}
	if !slices.Equal(got, want) {
		t.Fatalf("%+v", got)
	}
}

// parsed returns the nodes of a template.
func parsed(t *testing.T, src string) []api.Node {
	t.Helper()
	l, at, err := parse.Parse(src)
	if err != api.OK {
		t.Fatalf("Parse(%.300q) = %d, %v", src, at, err)
	}
	return l
}

// shown returns the beginning of the text of nodes or instructions.
func shown(l any) string { return fmt.Sprintf("%.900s", fmt.Sprintf("%+v", l)) }

// changeOffsets replaces each offset of a template.
func changeOffsets(l []api.Node, change func(at int) int) {
	for i := range l {
		l[i].At = change(l[i].At)
		changeOffsets(l[i].Body, change)
		changeOffsets(l[i].Else, change)
	}
}

// offsets returns changes of offsets: to equal ones, descending ones, extreme ones, and ones in no order.
func offsets() []func(at int) int {
	return []func(at int) int{
		func(at int) int { return at },
		func(at int) int { return 0 },
		func(at int) int { return 7 },
		func(at int) int { return -1 },
		func(at int) int { return -at },
		func(at int) int { return math.MaxInt - at },
		func(at int) int { return math.MinInt + at },
		func(at int) int { return at*7919%101 - 50 },
	}
}

// codeIs checks the code of a template, and that of its nodes with other offsets.
func codeIs(t *testing.T, src string, want []api.Ins) {
	t.Helper()
	for _, change := range offsets() {
		l := parsed(t, src)
		changeOffsets(l, change)
		if code, at, err := compile.Code(l); !slices.Equal(code, want) || at != 0 || err != api.OK {
			t.Fatalf("Code(%s) of %.300q = %s, %d, %v, want %s", shown(l), src, shown(code), at, err, shown(want))
		}
	}
	if code, at, err := compile.Compile(src); !slices.Equal(code, want) || at != 0 || err != api.OK {
		t.Fatalf("Compile(%.300q) = %s, %d, %v, want %s", src, shown(code), at, err, shown(want))
	}
	if n, err := compile.Check(want); n != len(want) || err != api.OK {
		t.Fatalf("the code of %.300q: %d, %v", src, n, err)
	}
}

// refused checks that Code refuses the nodes of a template for that with an offset, also when they have other offsets.
func refused(t *testing.T, src string, wantAt int, want api.Errno) {
	t.Helper()
	for _, change := range offsets() {
		l := parsed(t, src)
		changeOffsets(l, change)
		if code, at, err := compile.Code(l); len(code) != 0 || at != change(wantAt) || err != want {
			t.Fatalf("Code(%s) of %.300q = %s, %d, %v, want %d, %v", shown(l), src, shown(code), at, err, change(wantAt), want)
		}
	}
	if code, at, err := compile.Compile(src); len(code) != 0 || at != wantAt || err != want {
		t.Fatalf("Compile(%.300q) = %s, %d, %v, want %d, %v", src, shown(code), at, err, wantAt, want)
	}
}

func TestExample(t *testing.T) { // P17.1, P17.2
	codeIs(t, "a{{if .t}}b{{end}}", coded("text a|if .t 3|text b|halt"))
}

func TestEmptyList(t *testing.T) { // P17.1, P17.4
	for _, l := range [][]api.Node{nil, {}, make([]api.Node, 0, 3), parsed(t, "<a {{.x}}")[:0]} {
		if code, at, err := compile.Code(l); !slices.Equal(code, coded("halt")) || at != 0 || err != api.OK {
			t.Fatal(code, at, err)
		}
	}
	codeIs(t, "", coded("halt"))
}

// written has templates and their code, by what they are about.
func written() map[string][][2]string {
	return map[string][][2]string{
		"text": {
			{"a", "text a|halt"},
			{"a b }} {c} .\x00\xff", "text a b }} {c} .\x00\xff|halt"},
			{"<a b='c'>d</a>", "text <a b='c'>d</a>|halt"},
		},
		"print": {
			{"{{.}}", "print . html|halt"},
			{"{{ .a }}", "print .a html|halt"},
			{"{{.a.b.c.d.e.f.g.h}}", "print .a.b.c.d.e.f.g.h html|halt"},
			{"{{.a}}{{.b}}{{.a}}", "print .a html|print .b html|print .a html|halt"},
			{"x{{.a}}y{{.b}}z", "text x|print .a html|text y|print .b html|text z|halt"},
		},
		"flush": {
			{"{{flush}}", "flush|halt"},
			{"{{flush}}{{flush}}a{{flush}}", "flush|flush|text a|flush|halt"},
		},
		"if": {
			{"{{if .a}}{{end}}", "if .a 1|halt"},
			{"{{if .}}b{{end}}", "if . 2|text b|halt"},
			{"{{if .a}}b{{end}}c", "if .a 2|text b|text c|halt"},
			{"{{if .a}}b{{.c}}{{flush}}{{end}}", "if .a 4|text b|print .c html|flush|halt"},
			{"{{if .a}}{{else}}{{end}}", "if .a 2|jump 2|halt"},
			{"{{if .a}}b{{else}}{{end}}", "if .a 3|text b|jump 3|halt"},
			{"{{if .a}}{{else}}c{{end}}", "if .a 2|jump 3|text c|halt"},
			{"{{if .a}}b{{else}}c{{end}}", "if .a 3|text b|jump 4|text c|halt"},
			{"x{{if .a}}b{{else}}c{{.d}}{{end}}y", "text x|if .a 4|text b|jump 6|text c|print .d html|text y|halt"},
			{"{{if .a}}{{end}}{{if .b}}{{end}}", "if .a 1|if .b 2|halt"},
			{"{{if .a}}{{else}}{{end}}{{if .b}}{{else}}{{end}}", "if .a 2|jump 2|if .b 4|jump 4|halt"},
		},
		"range": {
			{"{{range .a}}{{end}}", "range .a 2|next 1|halt"},
			{"{{range .}}{{.}}{{end}}", "range . 3|print . html|next 1|halt"},
			{"x{{range .a.b}}y{{.}}z{{end}}w", "text x|range .a.b 6|text y|print . html|text z|next 2|text w|halt"},
			{"{{range .a}}{{end}}{{range .b}}{{end}}", "range .a 2|next 1|range .b 4|next 3|halt"},
		},
		"blocks within blocks": {
			{"{{if .a}}{{if .b}}c{{end}}{{end}}", "if .a 3|if .b 3|text c|halt"},
			{"{{if .a}}{{if .b}}{{else}}c{{end}}{{else}}{{if .d}}e{{end}}{{end}}", "if .a 5|if .b 3|jump 4|text c|jump 7|if .d 7|text e|halt"},
			{"{{if .a}}{{else}}{{if .b}}{{else}}{{if .c}}d{{else}}e{{end}}{{end}}{{end}}", "if .a 2|jump 8|if .b 4|jump 8|if .c 7|text d|jump 8|text e|halt"},
			{"{{if .a}}{{if .b}}{{if .c}}{{else}}{{end}}{{else}}{{end}}{{else}}{{end}}", "if .a 6|if .b 5|if .c 4|jump 4|jump 5|jump 6|halt"},
			{"{{range .a}}{{range .b}}c{{end}}{{end}}", "range .a 5|range .b 4|text c|next 2|next 1|halt"},
			{"{{range .a}}{{range .b}}{{end}}{{range .c}}{{end}}{{end}}", "range .a 6|range .b 3|next 2|range .c 5|next 4|next 1|halt"},
			{"{{range .a}}{{if .b}}c{{else}}d{{end}}{{end}}e", "range .a 6|if .b 4|text c|jump 5|text d|next 1|text e|halt"},
			{"{{range .a}}{{if .b}}{{end}}{{end}}", "range .a 3|if .b 2|next 1|halt"},
			{"{{if .a}}{{range .b}}c{{end}}{{else}}{{range .d}}e{{end}}{{end}}", "if .a 5|range .b 4|text c|next 2|jump 8|range .d 8|text e|next 6|halt"},
			{"{{if .a}}{{range .b}}{{if .c}}{{end}}{{end}}{{end}}", "if .a 4|range .b 4|if .c 3|next 2|halt"},
		},
	}
}

func TestWrittenCode(t *testing.T) { // P17.1, P17.2
	for about, all := range written() {
		t.Run(about, func(t *testing.T) {
			for _, w := range all {
				codeIs(t, w[0], coded(w[1]))
			}
		})
	}
}

// writtenCalls has templates with definitions and calls, and their code.
func writtenCalls() map[string][][2]string {
	return map[string][][2]string{
		"definitions": {
			{"{{define f}}{{end}}", "halt|ret"},
			{"{{define f}}{{end}}{{define g}}{{end}}", "halt|ret|ret"},
			{"{{define f}}b{{end}}a", "text a|halt|text b|ret"},
			{"a{{define f}}b{{end}}", "text a|halt|text b|ret"},
			{"a{{define f}}b{{end}}c", "text a|text c|halt|text b|ret"},
			{"{{define g}}b{{end}}a{{define f}}d{{end}}{{define e}}{{end}}c{{define h}}{{.x}}{{end}}", "text a|text c|halt|text b|ret|text d|ret|ret|print .x html|ret"},
			{"a{{define f}}{{if .b}}c{{end}}{{end}}", "text a|halt|if .b 4|text c|ret"},
			{"a{{define f}}{{if .b}}c{{else}}d{{end}}e{{end}}", "text a|halt|if .b 5|text c|jump 6|text d|text e|ret"},
			{"a{{define f}}{{range .b}}c{{.}}{{end}}{{flush}}{{end}}", "text a|halt|range .b 6|text c|print . html|next 3|flush|ret"},
			{"{{define f}}{{range .b}}{{end}}{{end}}{{define g}}{{if .c}}{{end}}{{end}}", "halt|range .b 3|next 2|ret|if .c 5|ret"},
			{"{{if .a}}{{end}}{{define f}}{{if .b}}{{else}}{{end}}{{end}}{{range .c}}{{end}}", "if .a 1|range .c 3|next 2|halt|if .b 6|jump 6|ret"},
		},
		"calls": {
			{"{{call f}}{{define f}}{{end}}", "call 2|halt|ret"},
			{"{{define f}}{{end}}{{call f}}", "call 2|halt|ret"},
			{"{{define f}}{{end}}{{call f .}}", "call . 2|halt|ret"},
			{"{{define f}}{{end}}{{call f .a.b}}", "call .a.b 2|halt|ret"},
			{"{{call f .x}}{{define e}}a{{end}}{{define f}}b{{end}}{{call e}}", "call .x 5|call 3|halt|text a|ret|text b|ret"},
			{"{{call f}}{{call f .}}{{call f .x}}{{call f}}{{define f}}{{end}}", "call 5|call . 5|call .x 5|call 5|halt|ret"},
			{"{{define f}}{{call f}}{{end}}", "halt|call 1|ret"},
			{"{{define f}}{{call g .x}}{{end}}{{define g}}{{call f .}}a{{end}}", "halt|call .x 3|ret|call . 1|text a|ret"},
			{"{{define f}}{{end}}{{define g}}{{call f}}{{call h}}{{end}}{{define h}}{{call g}}{{end}}x", "text x|halt|ret|call 2|call 6|ret|call 3|ret"},
			{"{{if .a}}{{call f}}{{else}}{{call g}}{{end}}{{define g}}a{{end}}{{define f}}b{{end}}", "if .a 3|call 7|jump 4|call 5|halt|text a|ret|text b|ret"},
			{"{{range .a}}{{call f .}}{{end}}{{define f}}{{range .b}}{{call f .c}}{{end}}{{end}}", "range .a 3|call . 4|next 1|halt|range .b 7|call .c 4|next 5|ret"},
			{"{{define f}}{{if .a}}{{call f .b}}{{else}}c{{end}}{{end}}{{call f .d}}", "call .d 2|halt|if .a 5|call .b 2|jump 6|text c|ret"},
			{"{{define F}}a{{end}}{{define f}}b{{end}}{{define f_1}}c{{end}}{{call f_1}}{{call f}}{{call F}}", "call 8|call 6|call 4|halt|text a|ret|text b|ret|text c|ret"},
		},
	}
}

func TestWrittenCodeOfCalls(t *testing.T) { // P17.1, P17.2
	for about, all := range writtenCalls() {
		t.Run(about, func(t *testing.T) {
			for _, w := range all {
				codeIs(t, w[0], coded(w[1]))
			}
		})
	}
}
