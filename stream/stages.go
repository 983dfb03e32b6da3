package stream

import (
	"tmplpipe/api"
	"tmplpipe/machine"
)

// stage is a stage of the pipeline: what an action does if it applies.
type stage struct {
	applies func(*Stream) bool
	perform func(*Stream) api.Errno
}

// stages returns the stages from the writer's end of the pipeline to the machine's, so that what has been output is
// delivered before more is evaluated. One of them applies in every state, since the last four are for one status each.
func stages() [9]stage {
	return [9]stage{
		{(*Stream).hasError, (*Stream).Err},
		{(*Stream).Done, (*Stream).refuse},
		{(*Stream).isDelivering, (*Stream).deliver},
		{(*Stream).mustChunk, (*Stream).chunk},
		{(*Stream).hasOutput, (*Stream).buffer},
		{(*Stream).isRunning, (*Stream).evaluate},
		{(*Stream).isFlushing, (*Stream).resume},
		{(*Stream).hasHalted, (*Stream).finish},
		{(*Stream).machineFailed, (*Stream).fail},
	}
}

func (s *Stream) hasError() bool      { return s.err != api.OK }
func (s *Stream) isDelivering() bool  { return len(s.framer.Pending()) > 0 }
func (s *Stream) hasOutput() bool     { return s.machine.Ready() > 0 }
func (s *Stream) isRunning() bool     { return s.machine.Status() == machine.Running }
func (s *Stream) isFlushing() bool    { return s.machine.Status() == machine.Flushing }
func (s *Stream) hasHalted() bool     { return s.machine.Status() == machine.Halted }
func (s *Stream) machineFailed() bool { return s.machine.Status() == machine.Failed }

// mustChunk reports whether the bytes in the ring buffer cannot wait for more: there is no room for more, or the machine
// outputs no more before they are delivered.
func (s *Stream) mustChunk() bool {
	return s.ring.Free() == 0 || s.ring.Len() > 0 && !s.hasOutput() && !s.isRunning()
}

// refuse returns the error of an action behind the end.
func (s *Stream) refuse() api.Errno { return api.ErrState }

// deliver offers the pending bytes to the writer.
func (s *Stream) deliver() api.Errno {
	n, err := s.writer.Write(s.framer.Pending())
	if err == api.ErrWrite {
		s.err = err
	}
	s.framer.Advance(n)
	return err
}

// chunk moves the first bytes of the ring buffer to a chunk. The framer accepts them: nothing is pending, and there are some.
func (s *Stream) chunk() api.Errno {
	payload := s.ring.Peek(s.most)
	s.framer.Start(payload)
	s.ring.Consume(len(payload))
	s.chunks++
	return api.OK
}

// buffer moves output of the machine to the ring buffer.
func (s *Stream) buffer() api.Errno {
	s.ring.Put(s.machine.Take(s.ring.Free()))
	return api.OK
}

// evaluate lets the machine execute an instruction. If it fails, the output before is delivered first.
func (s *Stream) evaluate() api.Errno {
	s.machine.Step()
	return api.OK
}

// resume continues behind a flush.
func (s *Stream) resume() api.Errno {
	s.machine.Resume()
	s.flushes++
	return api.OK
}

// finish begins the last chunk.
func (s *Stream) finish() api.Errno {
	s.framer.Finish()
	return api.OK
}

// fail makes the error of the machine that of the stream.
func (s *Stream) fail() api.Errno {
	s.err = s.machine.Err()
	return s.err
}
