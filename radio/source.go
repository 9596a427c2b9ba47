package radio

import (
	"sideband/api"
	"sideband/bands"
	"sideband/mount"
	"sideband/packet"
)

// What a source's frames begin with.
const (
	soundKind = 'P'
	titleKind = 'T'
)

// sampleBytes is how many bytes a sample has.
const sampleBytes = 2

// source is what a connection that pushes has.
type source struct {
	mount *mount.Mount
	frame []byte // what came of the one that isn't whole
}

// push lets a connection push to a mount.
func (s *Server) push(c *connection, m *mount.Mount) api.Errno {
	if err := m.Start(s.pushes + 1); err != api.OK {
		return err
	}
	s.pushes++
	c.say(fine(m.Name))
	c.role, c.ticks, c.request, c.source = pushes, 0, nil, &source{mount: m}
	s.moveAll()
	return api.OK
}

// kill ends the one that pushes to a mount.
func (s *Server) kill(c *connection, m *mount.Mount) api.Errno {
	if !m.Live() {
		return api.ErrState
	}
	for _, other := range s.rising() {
		if other.role == pushes && other.source.mount == m {
			s.end(other)
		}
	}
	c.say(fine(m.Name))
	s.end(c)
	return api.OK
}

// pushed takes a byte of a source's frames.
func (s *Server) pushed(c *connection, b byte) {
	frame := append(c.source.frame, b)
	switch bytesOf(frame) {
	case 0:
		s.end(c)
	case len(frame):
		s.tell(c.source.mount, frame)
		c.source.frame, c.ticks = nil, 0
	default:
		c.source.frame = frame
	}
}

// bytesOf is how many bytes a frame has that begins so, as far as that is told yet; 0: none begins so.
func bytesOf(frame []byte) int {
	switch {
	case frame[0] == soundKind:
		return 1 + sampleBytes*bands.Lines
	case frame[0] != titleKind:
		return 0
	case len(frame) < 2:
		return 2
	}
	return 2 + int(frame[1])
}

// tell lets who is on a mount have a whole frame.
func (s *Server) tell(m *mount.Mount, frame []byte) {
	if frame[0] == titleKind {
		s.tellTitle(m, string(frame[2:]))
		return
	}
	s.tellSound(m, samples(frame[1:]))
}

// samples are bytes' numbers, with a sign.
func samples(b []byte) []int16 {
	pcm := make([]int16, len(b)/sampleBytes)
	for i := range pcm {
		pcm[i] = int16(uint16(b[2*i]) | uint16(b[2*i+1])<<8)
	}
	return pcm
}

func (s *Server) tellSound(m *mount.Mount, pcm []int16) {
	p, err := m.Frame(pcm)
	if err != api.OK {
		return // it doesn't come to this: who pushes has a mount that is live
	}
	sent, _ := packet.Bytes(p)
	for _, l := range s.listenersOn(m) {
		l.queue.Offer(sent, p.Whole)
	}
}

func (s *Server) tellTitle(m *mount.Mount, title string) {
	m.Title(title)
	for _, l := range s.listenersOn(m) {
		l.weaver.Title(m.Now())
	}
}
