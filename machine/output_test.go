package machine_test

import (
	"bytes"
	"fmt"
	"math"
	"slices"
	"strconv"
	"strings"
	"testing"

	"tmplpipe/api"
	"tmplpipe/escape"
	"tmplpipe/machine"
)

// printed are values that have a text, and those texts.
func printed() (list, []string) {
	var values list
	var texts []string
	for _, n := range []int{0, 1, -1, 10, -100, 123456789, math.MaxInt, math.MinInt} {
		values, texts = append(values, n), append(texts, strconv.Itoa(n))
	}
	for _, s := range []string{"", "a", "0", "<", "</script>", "\"'", "&amp;", "\\", "\n", "\xff", "a\xe2\x82", "\xf0\x9f\x98", "\u20ac", "\u2028", "\U0001f600", "{{.x}}", "a b", strings.Repeat("<>", 100)} {
		values, texts = append(values, s), append(texts, s)
	}
	for i := range 256 {
		values, texts = append(values, string(rune(i))), append(texts, string(rune(i)))
		values, texts = append(values, "a"+string([]byte{byte(i)})+"b"), append(texts, "a"+string([]byte{byte(i)})+"b")
	}
	return values, texts
}

// outputs checks a step that outputs something, and takes it.
func outputs(t *testing.T, m *machine.Machine, want string) {
	t.Helper()
	if err := m.Step(); err != api.OK || m.Ready() != len(want) {
		t.Fatalf("Step = %v, then %d bytes are ready, not %d", err, m.Ready(), len(want))
	}
	if b := m.Take(len(want)); string(b) != want {
		t.Fatalf("%.100q, want %.100q", b, want)
	}
}

// TestEveryEscaper has values of the kinds that have a text, in the root and in a loop.
func TestEveryEscaper(t *testing.T) { // P19.2, P19.3
	values, texts := printed()
	for escaper := range api.Escs {
		m := machineFor(t, assemble(fmt.Sprintf("range l 3;print/%d .;next 1;halt", escaper)), provided(object{"l": values}))
		m.Step()
		for i, text := range texts {
			form, _ := escape.Escape(escaper, text)
			outputs(t, m, form)
			m.Step() // the next
			root := machineFor(t, assemble(fmt.Sprintf("print/%d m.v;halt", escaper)), provided(object{"m": object{"v": values[i]}}))
			outputs(t, root, form)
		}
		if m.Step() != api.OK || m.Status() != machine.Halted {
			t.Error(m.Status())
		}
	}
}

// TestValuesWithoutText has the other kinds with each escaper.
func TestValuesWithoutText(t *testing.T) { // P19.2
	for escaper := range api.Escs {
		for _, x := range []any{true, false, list{}, list{"a"}, object{}, object{"a": "b"}} {
			runs(t, assemble(fmt.Sprintf("text a;print/%d v;halt", escaper)), object{"v": x}, `1/0/1 "a"; 1/0/2 error 18`, "v")
			runs(t, assemble(fmt.Sprintf("range v 2;print/%d .;next 1;halt", escaper)), object{"v": list{x}}, `1/1/1; 1/1/2 error 18`, "v")
		}
	}
}

// filler is a string of that many bytes.
func filler(bytes int) string { return strings.Repeat("abc", bytes/3) + "abc"[:bytes%3] }

// last checks the last but one instruction of code, which is to output a string if there is room for it. The instructions
// before it output before.
func last(t *testing.T, code []api.Ins, data object, before []string, out string, room int) {
	t.Helper()
	m := machineFor(t, code, provided(data))
	for _, s := range before {
		outputs(t, m, s)
	}
	if len(out) <= room {
		outputs(t, m, out)
		if m.Index() != len(code)-1 || m.Steps() != len(code)-1 || m.Step() != api.OK || m.Status() != machine.Halted {
			t.Error(code[len(code)-2], m.Index(), m.Steps(), m.Status())
		}
	} else if err := m.Step(); err != api.ErrLimit || m.Status() != machine.Failed || m.Index() != len(code)-2 || m.Steps() != len(code)-1 || m.Ready() != 0 {
		t.Error(code[len(code)-2], err, m.Status(), m.Index(), m.Steps(), m.Ready())
	}
}

// TestMostOutputAtOnce has one instruction that outputs as much as there can be, or more.
func TestMostOutputAtOnce(t *testing.T) { // P19.2, P19.4, P19.5
	const most = api.MaxOutput
	halt := api.Ins{Op: api.OpHalt}
	for escaper, form := range []string{"&lt;", "&lt;", "%3C", `\u003c`, `\3c `} {
		print := []api.Ins{{Op: api.OpPrint, Path: "v", Esc: escaper}, halt}
		for _, size := range []int{most - 1, most, most + 1, 2 * most} {
			last(t, []api.Ins{{Op: api.OpText, S: filler(size)}, halt}, nil, nil, filler(size), most)
			last(t, print, object{"v": filler(size)}, nil, filler(size), most)
			rest := filler(size - len(form)) // the text has fewer bytes than its escaped form
			last(t, print, object{"v": rest + "<"}, nil, rest+form, most)
			last(t, print, object{"v": "<" + rest}, nil, form+rest, most)
		}
		for _, times := range []int{most / len(form), most/len(form) + 1} {
			last(t, print, object{"v": strings.Repeat("<", times)}, nil, strings.Repeat(form, times), most)
		}
	}
}

// TestMostOutputBehindOther has texts and escaped forms for which there is just room behind other output, or not.
func TestMostOutputBehindOther(t *testing.T) { // P19.2, P19.4, P19.5
	halt := api.Ins{Op: api.OpHalt}
	for room := range 14 {
		size := api.MaxOutput - room
		head := []api.Ins{{Op: api.OpText, S: filler(size - 7)}, {Op: api.OpPrint, Path: "w"}, {Op: api.OpText, S: "zz"}}
		before := []string{filler(size - 7), "-&lt;", "zz"}
		for _, s := range []string{"", "a", "<", "a<", "<a", "\xff", "a\xe2\x82", "\xf0", "<<", "abcde", "&&&", strings.Repeat("a", room), strings.Repeat("a", room+1)} {
			last(t, slices.Concat(head, []api.Ins{{Op: api.OpText, S: s}, halt}), object{"w": "-<"}, before, s, room)
			for escaper := range api.Escs {
				form, _ := escape.Escape(escaper, s)
				last(t, slices.Concat(head, []api.Ins{{Op: api.OpPrint, Path: "v", Esc: escaper}, halt}), object{"w": "-<", "v": s}, before, form, room)
			}
		}
		last(t, slices.Concat(head, []api.Ins{{Op: api.OpPrint, Path: "v"}, halt}), object{"w": "-<", "v": -12345}, before, "-12345", room)
	}
}

// TestBehindMostOutput has instructions behind as much output as there can be.
func TestBehindMostOutput(t *testing.T) { // P19.2, P19.4
	full := "text " + filler(api.MaxOutput-2) + ";print n;"
	for _, c := range []struct{ behind, trace, pulls string }{
		{"halt", "2/0/2 halted", ""},
		{"text ;halt", "3/0/3; 3/0/3 halted", ""},
		{"print e;halt", "3/0/3; 3/0/3 halted", " e"},
		{"text a;halt", "2/0/3 error 14", ""},
		{"print n;halt", "2/0/3 error 14", ""},
		{"print s;halt", "2/0/3 error 14", " s"},
		{"print x;halt", "2/0/3 error 17", " x"},
		{"print bad;halt", "2/0/3 error 20", " bad"},
		{"print yes;halt", "2/0/3 error 18", " yes"},
		{"flush;if yes 4;range l 6;next 5;print s;halt", "3/0/3 flushing; 4/0/4; 5/1/5; 5/1/6; 5/1/7; 6/0/8; 6/0/9 error 14", " yes l s"},
		{"jump 3;call 4;text a;ret", "3/0/2; 4/1/3; 4/1/4 error 14", ""},
		{"call m 4;halt;print e;ret", "4/1/3; 4/1/4 error 17", " m"},
		{"call m 4;halt;print s;ret", "4/1/3; 4/1/4 error 14", " m"},
		{"range none 3;ret", "3/0/3; 3/0/3 error 4", " none"},
	} {
		p := provided(sample(), "bad")
		m := machineFor(t, assemble(full+c.behind), p)
		outputs(t, m, filler(api.MaxOutput-2))
		outputs(t, m, "-5")
		if got, pulls := traced(t, m), strings.Join(p.Pulls(), " "); got != c.trace || pulls != "n"+c.pulls {
			t.Errorf("%s: %s, pulls %s", c.behind, got, pulls)
		}
	}
}

// TestMostOutputIsTaken has output that is taken in pieces of several sizes before there is more.
func TestMostOutputIsTaken(t *testing.T) { // P19.2, P19.3, P19.4
	for _, piece := range []int{1, 7, 1000, api.MaxOutput / 4, api.MaxOutput} {
		m := machineFor(t, assemble("range l 2;print .;next 1;text a;halt"), provided(object{"l": list{filler(api.MaxOutput / 2), filler(api.MaxOutput/2 - 1)}}))
		var all bytes.Buffer
		for m.Status() == machine.Running {
			before, steps := m.Ready(), m.Steps()
			if err := m.Step(); (err == api.ErrState) != (before > 0) {
				t.Fatal(err, before)
			}
			if before > 0 && m.Steps() != steps {
				t.Fatal("a step that was refused was counted")
			}
			b := m.Take(piece)
			if len(b) > piece || before > 0 && len(b) != min(piece, before) {
				t.Fatal(len(b), before)
			}
			all.Write(b)
		}
		if want := filler(api.MaxOutput/2) + filler(api.MaxOutput/2-1) + "a"; all.String() != want || m.Status() != machine.Halted {
			t.Error(piece, all.Len(), m.Status())
		}
	}
}
