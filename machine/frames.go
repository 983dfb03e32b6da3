package machine

import (
	"tmplpipe/api"
	"tmplpipe/model"
)

// frame is an open loop or an open call.
type frame interface {
	// outside returns the scope that is restored at the end of the loop or call.
	outside() model.Scope
}

// loop is an open loop.
type loop struct {
	rest  []api.Value // the items behind the current one
	scope model.Scope
}

func (l *loop) outside() model.Scope { return l.scope }

// call is an open call.
type call struct {
	back  int // the index of the instruction behind the call
	scope model.Scope
}

func (c call) outside() model.Scope { return c.scope }

func (m *Machine) push(f frame) { m.frames = append(m.frames, f) }

// top returns the innermost frame, or nil if there is none.
func (m *Machine) top() frame {
	if len(m.frames) == 0 {
		return nil
	}
	return m.frames[len(m.frames)-1]
}

// pop removes the innermost frame and restores its scope.
func (m *Machine) pop() {
	m.scope = m.top().outside()
	last := len(m.frames) - 1
	m.frames[last] = nil // so that its items are kept no longer
	m.frames = m.frames[:last]
}
