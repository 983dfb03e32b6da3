package machine

import (
	"tmplpipe/api"
	"tmplpipe/incescape"
	"tmplpipe/model"
	"tmplpipe/value"
)

// execute executes an instruction and returns the index of the next one. If it fails, it has at most counted a step.
func (m *Machine) execute(ins api.Ins) (int, api.Errno) {
	if isStep(ins.Op) {
		if m.steps == api.MaxSteps {
			return 0, api.ErrLimit
		}
		m.steps++
	}
	next := m.index + 1
	switch ins.Op {
	case api.OpText:
		return next, m.text(ins)
	case api.OpPrint:
		return next, m.print(ins)
	case api.OpIf:
		return m.branch(ins)
	case api.OpJump:
		return ins.To, api.OK
	case api.OpRange:
		return m.begin(ins)
	case api.OpNext:
		return m.again(ins)
	case api.OpCall:
		return m.enter(ins)
	case api.OpRet:
		return m.leave()
	case api.OpFlush:
		m.status = Flushing
	case api.OpHalt:
		m.status = Halted
		return m.index, api.OK
	}
	return next, api.OK
}

// isStep reports whether an instruction with the opcode counts as a step.
func isStep(op int) bool { return op != api.OpJump && op != api.OpRet && op != api.OpHalt }

// room returns how many bytes can still be output.
func (m *Machine) room() int { return api.MaxOutput - m.total }

// output outputs bytes, for which there is room.
func (m *Machine) output(b []byte) {
	m.out = b
	m.total += len(b)
}

func (m *Machine) text(ins api.Ins) api.Errno {
	if len(ins.S) > m.room() {
		return api.ErrLimit
	}
	m.output([]byte(ins.S))
	return api.OK
}

func (m *Machine) print(ins api.Ins) api.Errno {
	v, err := model.Resolve(m.scope, m.provider, ins.Path)
	if err != api.OK {
		return err
	}
	text, err := value.Text(v)
	if err != api.OK {
		return err
	}
	e, err := incescape.New(ins.Esc)
	if err != api.OK {
		return err
	}
	e.Write([]byte(text))
	e.Close()
	if e.Ready() > m.room() {
		return api.ErrLimit
	}
	m.output(e.Next(e.Ready()))
	return api.OK
}

// resolveKind returns the value at the path of an instruction, which must be of a kind.
func (m *Machine) resolveKind(ins api.Ins, kind int) (api.Value, api.Errno) {
	v, err := model.Resolve(m.scope, m.provider, ins.Path)
	if err != api.OK {
		return api.Value{}, err
	}
	if v.Kind != kind {
		return api.Value{}, api.ErrType
	}
	return v, api.OK
}

func (m *Machine) branch(ins api.Ins) (int, api.Errno) {
	v, err := m.resolveKind(ins, api.Bool)
	if err != api.OK {
		return 0, err
	}
	if !v.B {
		return ins.To, api.OK
	}
	return m.index + 1, api.OK
}

// begin begins a loop, if there is something to repeat it for.
func (m *Machine) begin(ins api.Ins) (int, api.Errno) {
	v, err := m.resolveKind(ins, api.List)
	if err != api.OK {
		return 0, err
	}
	if len(v.Items) == 0 {
		return ins.To, api.OK
	}
	m.push(&loop{rest: v.Items[1:], scope: m.scope})
	m.scope = model.Scope{Value: v.Items[0]}
	return m.index + 1, api.OK
}

// again repeats a loop for the next item, or ends it.
func (m *Machine) again(ins api.Ins) (int, api.Errno) {
	l, ok := m.top().(*loop)
	if !ok {
		return 0, api.ErrState
	}
	if len(l.rest) == 0 {
		m.pop()
		return m.index + 1, api.OK
	}
	m.scope = model.Scope{Value: l.rest[0]}
	l.rest = l.rest[1:]
	return ins.To, api.OK
}

// enter calls a definition.
func (m *Machine) enter(ins api.Ins) (int, api.Errno) {
	if m.calls == api.MaxDepth {
		return 0, api.ErrDepth
	}
	scope := m.scope
	if ins.HasPath && ins.Path != "" {
		v, err := model.Resolve(m.scope, m.provider, ins.Path)
		if err != api.OK {
			return 0, err
		}
		scope = model.Scope{Value: v}
	}
	m.push(call{back: m.index + 1, scope: m.scope})
	m.calls++
	m.scope = scope
	return ins.To, api.OK
}

// leave returns from a definition.
func (m *Machine) leave() (int, api.Errno) {
	c, ok := m.top().(call)
	if !ok {
		return 0, api.ErrState
	}
	m.pop()
	m.calls--
	return c.back, api.OK
}
