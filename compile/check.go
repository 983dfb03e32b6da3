package compile

import (
	"tmplpipe/api"
	"tmplpipe/value"
)

// maxCode is the greatest number of instructions of code that is valid.
const maxCode = 65536

// Where the To of an opcode may lead.
const (
	nowhere = iota // the opcode has no To
	anywhere
	ahead
	back // also to the instruction itself
)

// operands are the operands of an opcode.
type operands struct {
	s, path, hasPath, esc bool
	to                    int
}

var operandsOf = [...]operands{
	api.OpText:  {s: true},
	api.OpPrint: {path: true, esc: true},
	api.OpIf:    {path: true, to: ahead},
	api.OpJump:  {to: ahead},
	api.OpRange: {path: true, to: ahead},
	api.OpNext:  {to: back},
	api.OpCall:  {path: true, hasPath: true, to: anywhere},
	api.OpRet:   {},
	api.OpFlush: {},
	api.OpHalt:  {},
}

// Check validates compiled code; on error it returns the index.
func Check(code []api.Ins) (int, api.Errno) {
	if len(code) > maxCode {
		return 0, api.ErrLimit
	}
	for i, ins := range code {
		if err := check(ins, i, len(code)); err != api.OK {
			return i, err
		}
	}
	if len(code) == 0 || !isEnd(code[len(code)-1].Op) {
		return len(code), api.ErrTruncated
	}
	return len(code), api.OK
}

// isEnd reports whether an opcode may be the last one.
func isEnd(op int) bool { return op == api.OpHalt || op == api.OpRet }

// check validates the instruction at an index of code of a length.
func check(ins api.Ins, index, length int) api.Errno {
	if ins.Op < 0 || ins.Op >= len(operandsOf) || hasForeignOperand(ins) {
		return api.ErrSyntax
	}
	if _, err := value.Split(ins.Path); err != api.OK {
		return err
	}
	has := operandsOf[ins.Op]
	switch {
	case has.esc && (ins.Esc < 0 || ins.Esc >= api.Escs):
		return api.ErrArg
	case ins.To < 0, ins.To >= length, has.to == ahead && ins.To <= index, has.to == back && ins.To > index:
		return api.ErrRange
	}
	return api.OK
}

// hasForeignOperand reports whether an operand that the opcode does not have is not zero. A call has no path where HasPath
// is false.
func hasForeignOperand(ins api.Ins) bool {
	has := operandsOf[ins.Op]
	return !has.s && ins.S != "" ||
		!has.path && ins.Path != "" ||
		!has.hasPath && ins.HasPath ||
		has.hasPath && !ins.HasPath && ins.Path != "" ||
		!has.esc && ins.Esc != 0 ||
		has.to == nowhere && ins.To != 0
}
