package compile_test

import (
	"math"
	"slices"
	"strings"
	"testing"

	"tmplpipe/api"
	"tmplpipe/compile"
)

const mostCode = 65536

// checked checks the results of Check.
func checked(t *testing.T, code []api.Ins, want int, wantErr api.Errno) {
	t.Helper()
	if n, err := compile.Check(code); n != want || err != wantErr {
		t.Fatalf("Check(%s) = %d, %v, want %d, %v", shown(code), n, err, want, wantErr)
	}
}

// halts returns code of a length that is valid at each place.
func halts(n int) []api.Ins { return slices.Repeat(coded("halt"), n) }

// placed returns valid code of a length, but for the instruction at an index.
func placed(ins api.Ins, index, length int) []api.Ins {
	code := halts(length)
	code[index] = ins
	return code
}

// ends has the indices and lengths at which instructions are placed: the only one, the first one, in the middle, the last.
func ends() [][2]int { return [][2]int{{0, 1}, {0, 9}, {1, 9}, {4, 9}, {7, 9}, {8, 9}} }

// hasOperand reports whether an opcode has an operand.
func hasOperand(op int, operand string) bool {
	return strings.Contains([]string{"S", "Path Esc", "Path To", "To", "Path To", "To", "Path HasPath To", "", "", ""}[op], operand)
}

func TestCheckOfNothing(t *testing.T) { // P17.3
	checked(t, nil, 0, api.ErrTruncated)
	checked(t, []api.Ins{}, 0, api.ErrTruncated)
	checked(t, halts(3)[:0], 0, api.ErrTruncated)
}

func TestValidCode(t *testing.T) { // P17.3
	for _, notation := range []string{
		"halt", "ret", "halt|ret", "ret|halt", "flush|halt", "text |halt", "text a|ret", "print . html|halt", "print .a.b css|halt",
		"if .a 1|halt", "if . 2|flush|halt", "jump 1|halt", "range .a 1|halt", "range . 2|next 1|halt", "next 0|halt", "flush|next 0|ret",
		"call 0|halt", "call 1|halt", "call . 0|halt", "call .x 1|ret",
		"text a|print .a.b css|if .t 4|jump 6|range .l 6|next 5|call .x 9|flush|halt|call 9|ret",
	} {
		code := coded(notation)
		checked(t, code, len(code), api.OK)
	}
}

func TestUnknownOpcodes(t *testing.T) { // P17.3
	for _, op := range []int{-1, -2, -10, math.MinInt, math.MinInt32, 10, 11, 100, 256, 1 << 32, math.MaxInt} {
		for _, e := range ends() {
			checked(t, placed(api.Ins{Op: op}, e[0], e[1]), e[0], api.ErrSyntax)
			checked(t, placed(api.Ins{Op: op, S: "a", Path: ".", HasPath: true, Esc: -1, To: -1}, e[0], e[1]), e[0], api.ErrSyntax)
		}
	}
}

// valid returns an instruction for an index of code of a length, and whether there is a valid one of the opcode.
func valid(op, index, length int) (api.Ins, bool) {
	ins := api.Ins{Op: op}
	if op == api.OpIf || op == api.OpJump || op == api.OpRange {
		ins.To = index + 1
	}
	return ins, ins.To < length
}

// isLast reports whether code may end with an opcode.
func isLast(op int) bool { return op == api.OpHalt || op == api.OpRet }

// TestOpcodes has each opcode at each place, also as the last one.
func TestOpcodes(t *testing.T) { // P17.3
	for op := range api.OpHalt + 1 {
		for _, e := range ends() {
			ins, ok := valid(op, e[0], e[1])
			switch code := placed(ins, e[0], e[1]); {
			case !ok:
				checked(t, code, e[0], api.ErrRange)
			case e[0] == e[1]-1 && !isLast(op):
				checked(t, code, e[1], api.ErrTruncated)
			default:
				checked(t, code, e[1], api.OK)
			}
		}
	}
}

// TestForeignOperands has each operand on each opcode that doesn't have it, alone and with those that it has.
func TestForeignOperands(t *testing.T) { // P17.3
	set := map[string][]func(ins *api.Ins){
		"S":       {func(ins *api.Ins) { ins.S = "a" }, func(ins *api.Ins) { ins.S = "\x00" }, func(ins *api.Ins) { ins.S = " " }},
		"Path":    {func(ins *api.Ins) { ins.Path = "a" }, func(ins *api.Ins) { ins.Path = "a.b" }, func(ins *api.Ins) { ins.Path = "." }, func(ins *api.Ins) { ins.Path = "\x00" }},
		"HasPath": {func(ins *api.Ins) { ins.HasPath = true }, func(ins *api.Ins) { ins.HasPath, ins.Path = true, "a" }},
		"Esc":     {func(ins *api.Ins) { ins.Esc = 1 }, func(ins *api.Ins) { ins.Esc = 4 }, func(ins *api.Ins) { ins.Esc = 5 }, func(ins *api.Ins) { ins.Esc = -1 }, func(ins *api.Ins) { ins.Esc = math.MinInt }, func(ins *api.Ins) { ins.Esc = 1 << 32 }},
		"To":      {func(ins *api.Ins) { ins.To = 1 }, func(ins *api.Ins) { ins.To = 8 }, func(ins *api.Ins) { ins.To = 9 }, func(ins *api.Ins) { ins.To = -1 }, func(ins *api.Ins) { ins.To = math.MaxInt }, func(ins *api.Ins) { ins.To = 1 << 32 }},
	}
	tried := 0
	for op := range api.OpHalt + 1 {
		for operand, changes := range set {
			if hasOperand(op, operand) {
				continue
			}
			for _, change := range changes {
				for _, e := range ends() {
					ins, _ := valid(op, e[0], e[1])
					change(&ins)
					checked(t, placed(ins, e[0], e[1]), e[0], api.ErrSyntax)
					tried++
				}
			}
		}
	}
	if tried != 6*(9*3+6*4+9*2+9*6+5*6) {
		t.Fatal(tried)
	}
}

// TestPathOfCalls has the combinations of Path and HasPath.
func TestPathOfCalls(t *testing.T) { // P17.3
	for _, e := range ends()[1:5] {
		checked(t, placed(api.Ins{Op: api.OpCall}, e[0], e[1]), e[1], api.OK)
		checked(t, placed(api.Ins{Op: api.OpCall, HasPath: true}, e[0], e[1]), e[1], api.OK)
		checked(t, placed(api.Ins{Op: api.OpCall, HasPath: true, Path: "a.b"}, e[0], e[1]), e[1], api.OK)
		for _, path := range append(badPaths(), "a", "a.b") {
			checked(t, placed(api.Ins{Op: api.OpCall, Path: path}, e[0], e[1]), e[0], api.ErrSyntax)
		}
	}
}

// badPaths are strings that are no paths.
func badPaths() []string {
	name := strings.Repeat("n", api.MaxName)
	return []string{
		".", "..", ".a", "a.", "a..b", "a.b.", ".a.b", " ", " a", "a ", "a. b", "9", "9a", "a.9", "_", "_a", "a._b", "a-b", "a.b-", "a,b", "a/b", "a[0]", "\x00", "a\x00", "é", "aé", "a\xff", "a\n",
		name + "n", "a." + name + "n", name + "n.a", strings.Repeat("a.", api.MaxPath) + "a", strings.Repeat("a.", api.MaxPath), strings.Repeat("a.", 1000) + "a", strings.Repeat("a", 100000),
	}
}

// goodPaths are paths.
func goodPaths() []string {
	name := strings.Repeat("n", api.MaxName)
	return []string{"", "a", "Z", "a.b", "a9_", "a.b9.c_", name, name + "." + name, strings.Repeat("a.", api.MaxPath-1) + "a", strings.Repeat(name+".", api.MaxPath-1) + name}
}

// TestPaths has paths and others on each opcode that has one.
func TestPaths(t *testing.T) { // P17.3
	for op := range api.OpHalt + 1 {
		if !hasOperand(op, "Path") {
			continue
		}
		for _, e := range ends() {
			ins, fits := valid(op, e[0], e[1])
			ins.HasPath = op == api.OpCall
			for _, ins.Path = range badPaths() {
				checked(t, placed(ins, e[0], e[1]), e[0], api.ErrName)
			}
			for _, ins.Path = range goodPaths() {
				switch code := placed(ins, e[0], e[1]); {
				case !fits:
					checked(t, code, e[0], api.ErrRange)
				case e[0] == e[1]-1:
					checked(t, code, e[1], api.ErrTruncated)
				default:
					checked(t, code, e[1], api.OK)
				}
			}
		}
	}
}

func TestEscapers(t *testing.T) { // P17.3
	for _, e := range ends()[1:5] {
		for esc := range api.Escs {
			checked(t, placed(api.Ins{Op: api.OpPrint, Path: "a", Esc: esc}, e[0], e[1]), e[1], api.OK)
		}
	}
	for _, e := range ends() {
		for _, esc := range []int{-1, -2, -5, math.MinInt, api.Escs, api.Escs + 1, 256, 1 << 32, math.MaxInt} {
			checked(t, placed(api.Ins{Op: api.OpPrint, Path: "a", Esc: esc}, e[0], e[1]), e[0], api.ErrArg)
		}
	}
}

// isIn reports whether an opcode at an index may have a To in code of a length.
func isIn(op, to, index, length int) bool {
	switch op {
	case api.OpIf, api.OpJump, api.OpRange:
		return to > index && to < length
	case api.OpNext:
		return to >= 0 && to <= index
	}
	return to >= 0 && to < length
}

// TestTargets has each To around the borders, at each index.
func TestTargets(t *testing.T) { // P17.3
	for _, op := range []int{api.OpIf, api.OpJump, api.OpRange, api.OpNext, api.OpCall} {
		for length := 1; length <= 9; length++ {
			targets := []int{math.MinInt, math.MinInt32, -256, mostCode - 1, mostCode, 1 << 32, 1<<32 + 1, math.MaxInt}
			for to := -3; to <= length+3; to++ {
				targets = append(targets, to)
			}
			for index := range length {
				for _, to := range targets {
					switch code := placed(api.Ins{Op: op, To: to}, index, length); {
					case !isIn(op, to, index, length):
						checked(t, code, index, api.ErrRange)
					case index == length-1:
						checked(t, code, length, api.ErrTruncated)
					default:
						checked(t, code, length, api.OK)
					}
				}
			}
		}
	}
}

// TestMostInstructions has code of the greatest length, and longer code, also with faults.
func TestMostInstructions(t *testing.T) { // P17.3
	checked(t, halts(mostCode), mostCode, api.OK)
	checked(t, halts(mostCode-1), mostCode-1, api.OK)
	for _, length := range []int{mostCode + 1, mostCode + 2, 2 * mostCode, 1 << 18} {
		checked(t, halts(length), 0, api.ErrLimit)
	}
	flush := coded("flush")[0]
	checked(t, placed(flush, mostCode-1, mostCode), mostCode, api.ErrTruncated)
	checked(t, placed(flush, mostCode, mostCode+1), 0, api.ErrLimit)
	for _, index := range []int{0, 1, 32768, mostCode - 2, mostCode - 1} {
		for _, f := range faults() {
			checked(t, placed(f.ins, index, mostCode), index, f.err)
			checked(t, placed(f.ins, index, mostCode+1), 0, api.ErrLimit)
		}
	}
	for _, op := range []int{api.OpIf, api.OpJump, api.OpRange, api.OpCall} {
		checked(t, placed(api.Ins{Op: op, To: mostCode - 1}, 0, mostCode), mostCode, api.OK)
		checked(t, placed(api.Ins{Op: op, To: mostCode}, 0, mostCode), 0, api.ErrRange)
		checked(t, placed(api.Ins{Op: op, To: mostCode - 1}, 0, mostCode-1), 0, api.ErrRange)
	}
	checked(t, placed(api.Ins{Op: api.OpNext, To: mostCode - 2}, mostCode-2, mostCode), mostCode, api.OK)
	checked(t, placed(api.Ins{Op: api.OpNext, To: mostCode - 1}, mostCode-2, mostCode), mostCode-2, api.ErrRange)
}
