package compile_test

import (
	"math"
	"slices"
	"testing"

	"tmplpipe/api"
	"tmplpipe/compile"
	"tmplpipe/value"
)

// faulty is an instruction that is wrong at each index of each code.
type faulty struct {
	ins api.Ins
	err api.Errno
}

// faults has each fault alone, and each pair of faults that one instruction can have: the one that the chapter mentions
// first counts.
func faults() []faulty {
	return []faulty{
		{api.Ins{Op: 10}, api.ErrSyntax},
		{api.Ins{Op: -1}, api.ErrSyntax},
		{api.Ins{Op: api.OpHalt, S: "a"}, api.ErrSyntax},
		{api.Ins{Op: api.OpRet, To: 1}, api.ErrSyntax},
		{api.Ins{Op: api.OpPrint, HasPath: true}, api.ErrSyntax},
		{api.Ins{Op: api.OpCall, Path: "a"}, api.ErrSyntax},
		{api.Ins{Op: api.OpPrint, Path: "."}, api.ErrName},
		{api.Ins{Op: api.OpCall, HasPath: true, Path: "9"}, api.ErrName},
		{api.Ins{Op: api.OpPrint, Esc: 5}, api.ErrArg},
		{api.Ins{Op: api.OpPrint, Path: "a", Esc: -1}, api.ErrArg},
		{api.Ins{Op: api.OpJump, To: -1}, api.ErrRange},
		{api.Ins{Op: api.OpIf, Path: "a"}, api.ErrRange},
		{api.Ins{Op: api.OpNext, To: math.MaxInt}, api.ErrRange},

		{api.Ins{Op: 10, Path: ".", Esc: 5, To: -1}, api.ErrSyntax},
		{api.Ins{Op: api.OpFlush, Path: "."}, api.ErrSyntax},
		{api.Ins{Op: api.OpPrint, Path: ".", S: "a"}, api.ErrSyntax},
		{api.Ins{Op: api.OpCall, Path: "."}, api.ErrSyntax},
		{api.Ins{Op: api.OpPrint, Esc: 5, S: "a"}, api.ErrSyntax},
		{api.Ins{Op: api.OpPrint, Esc: 5, To: 1}, api.ErrSyntax},
		{api.Ins{Op: api.OpPrint, Esc: -1, To: -1}, api.ErrSyntax},
		{api.Ins{Op: api.OpFlush, Esc: 5}, api.ErrSyntax},
		{api.Ins{Op: api.OpJump, Esc: 1, To: -1}, api.ErrSyntax},
		{api.Ins{Op: api.OpIf, S: "a", To: math.MaxInt}, api.ErrSyntax},
		{api.Ins{Op: api.OpIf, HasPath: true}, api.ErrSyntax},
		{api.Ins{Op: api.OpText, To: -1}, api.ErrSyntax},
		{api.Ins{Op: api.OpPrint, Path: ".", Esc: 5}, api.ErrName},
		{api.Ins{Op: api.OpPrint, Path: "a.", Esc: -1}, api.ErrName},
		{api.Ins{Op: api.OpIf, Path: "."}, api.ErrName},
		{api.Ins{Op: api.OpRange, Path: "a.", To: math.MaxInt}, api.ErrName},
		{api.Ins{Op: api.OpCall, HasPath: true, Path: ".a", To: -1}, api.ErrName},
	}
}

// TestFaults has each fault in the only instruction, and in the first one, one in the middle and the last one.
func TestFaults(t *testing.T) { // P17.3
	for _, f := range faults() {
		for _, e := range ends() {
			checked(t, placed(f.ins, e[0], e[1]), e[0], f.err)
		}
	}
}

// TestTwoFaults has two instructions with faults: the first one counts.
func TestTwoFaults(t *testing.T) { // P17.3
	for _, f := range faults() {
		for _, g := range faults() {
			for _, at := range [][3]int{{0, 1, 2}, {0, 1, 9}, {0, 8, 9}, {3, 4, 9}, {3, 5, 9}, {7, 8, 9}} {
				code := placed(f.ins, at[0], at[2])
				code[at[1]] = g.ins
				checked(t, code, at[0], f.err)
			}
		}
	}
}

// TestFaultAndEnd has a fault in code that does not end as it has to: the fault comes first.
func TestFaultAndEnd(t *testing.T) { // P17.3
	for _, f := range faults() {
		for _, last := range []string{"flush", "text a", "print .a html", "next 0", "call 0"} {
			for index := range 5 {
				checked(t, append(placed(f.ins, index, 5), coded(last)...), index, f.err)
			}
		}
	}
	for _, last := range []string{"if .a 5", "jump 5", "range .a 5"} { // leads nowhere, as the last one
		checked(t, append(halts(5), coded(last)...), 5, api.ErrRange)
		checked(t, append(halts(4), coded(last)...), 4, api.ErrRange)
	}
	checked(t, append(halts(5), coded("next 5")...), 6, api.ErrTruncated)
}

// said is what the chapter says of Check, clause by clause.
func said(code []api.Ins) (int, api.Errno) {
	if len(code) > mostCode {
		return 0, api.ErrLimit
	}
	for i, ins := range code {
		known := slices.Contains([]int{0, 1, 2, 3, 4, 5, 6, 7, 8, 9}, ins.Op)
		if !known ||
			ins.S != "" && !hasOperand(ins.Op, "S") || ins.Path != "" && !hasOperand(ins.Op, "Path") || ins.Esc != 0 && !hasOperand(ins.Op, "Esc") || ins.To != 0 && !hasOperand(ins.Op, "To") ||
			ins.HasPath && ins.Op != api.OpCall || ins.Op == api.OpCall && ins.Path != "" && !ins.HasPath {
			return i, api.ErrSyntax
		}
		if _, err := value.Split(ins.Path); err != api.OK {
			return i, api.ErrName
		}
		if ins.Op == api.OpPrint && !slices.Contains([]int{0, 1, 2, 3, 4}, ins.Esc) {
			return i, api.ErrArg
		}
		if hasOperand(ins.Op, "To") && !isIn(ins.Op, ins.To, i, len(code)) {
			return i, api.ErrRange
		}
	}
	if len(code) == 0 || !isLast(code[len(code)-1].Op) {
		return len(code), api.ErrTruncated
	}
	return len(code), api.OK
}

// each calls see with many instructions: all combinations of some operands.
func each(see func(ins api.Ins)) {
	for _, op := range []int{math.MinInt, -1, 0, 1, 2, 3, 4, 5, 6, 7, 8, 9, 10, math.MaxInt} {
		for _, s := range []string{"", "a"} {
			for _, path := range []string{"", "a", "a.b", "a."} {
				for _, hasPath := range []bool{false, true} {
					for _, esc := range []int{-1, 0, 1, 4, 5} {
						for _, to := range []int{-1, 0, 1, 2, 3, 4} {
							see(api.Ins{Op: op, S: s, Path: path, HasPath: hasPath, Esc: esc, To: to})
						}
					}
				}
			}
		}
	}
}

// TestAllInstructions has each instruction at each place of code.
func TestAllInstructions(t *testing.T) { // P17.3
	count := map[api.Errno]int{}
	each(func(ins api.Ins) {
		for length := 1; length <= 4; length++ {
			for index := range length {
				for _, code := range [][]api.Ins{placed(ins, index, length), append(placed(ins, index, length), api.Ins{Op: api.OpFlush})} {
					n, err := said(code)
					checked(t, code, n, err)
					count[err]++
				}
			}
		}
	})
	for _, err := range []api.Errno{api.OK, api.ErrSyntax, api.ErrName, api.ErrArg, api.ErrRange, api.ErrTruncated} {
		if count[err] < 100 {
			t.Error(count)
		}
	}
}

// TestIrregularCode has code of several instructions, most of which are valid.
func TestIrregularCode(t *testing.T) { // P17.3
	var n numbers
	var all []api.Ins
	each(func(ins api.Ins) {
		_, err := said(placed(ins, 1, 4))
		if err != api.ErrSyntax || n.below(200) == 0 {
			all = append(all, ins)
		}
	})
	count := map[api.Errno]int{}
	for range 200000 {
		var code []api.Ins
		for range n.below(5) {
			code = append(code, all[n.below(len(all))])
		}
		for range n.below(3) {
			ins, _ := valid(n.below(10), len(code), len(code)+2)
			code = append(code, ins)
		}
		want, err := said(code)
		checked(t, code, want, err)
		count[err]++
	}
	for _, err := range []api.Errno{api.OK, api.ErrSyntax, api.ErrName, api.ErrArg, api.ErrRange, api.ErrTruncated} {
		if count[err] < 500 {
			t.Error(count)
		}
	}
}

// TestChangedCode changes one operand of the code of a template.
func TestChangedCode(t *testing.T) { // P17.3
	code, _, _ := compile.Compile(varied)
	for i := range code {
		for _, change := range []func(ins *api.Ins, by int){
			func(ins *api.Ins, by int) { ins.Op += by }, func(ins *api.Ins, by int) { ins.Esc += by }, func(ins *api.Ins, by int) { ins.To += by },
			func(ins *api.Ins, by int) { ins.Op, ins.To = ins.Op+by, ins.To+2 },
			func(ins *api.Ins, by int) { ins.S += "x" }, func(ins *api.Ins, by int) { ins.S = "" },
			func(ins *api.Ins, by int) { ins.Path += "x" }, func(ins *api.Ins, by int) { ins.Path += "." }, func(ins *api.Ins, by int) { ins.Path = "" },
			func(ins *api.Ins, by int) { ins.HasPath = !ins.HasPath },
		} {
			for by := -len(code) - 1; by <= len(code)+1; by++ {
				changed := slices.Clone(code)
				change(&changed[i], by)
				n, err := said(changed)
				checked(t, changed, n, err)
			}
		}
	}
}
