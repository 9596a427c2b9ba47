package radio

import (
	"sideband/api"
	"sideband/mount"
	"sideband/packet"
	"sideband/queue"
	"sideband/weave"
)

// listener is what a connection that listens has.
type listener struct {
	meant  *mount.Mount // the mount that it asked for
	on     *mount.Mount // the one that it hears; none, if it is nowhere
	queue  *queue.Queue
	weaver *weave.Weaver
}

// listen lets a connection listen to a mount, with titles, if they are wanted.
func (s *Server) listen(c *connection, m *mount.Mount, titles bool) api.Errno {
	if len(s.listeners()) >= s.most {
		return api.ErrFull
	}
	r := fine(m.Name)
	if titles {
		r.Every = m.Every
	}
	l, err := newListener(m, s.room, r.Every)
	if err != api.OK {
		return err
	}
	c.say(r)
	c.role, c.request, c.listener = listens, nil, l
	l.join(s.active(m))
	return api.OK
}

// newListener is one that is nowhere yet.
func newListener(m *mount.Mount, room, every int) (*listener, api.Errno) {
	q, err := queue.New(room)
	if err != api.OK {
		return nil, err
	}
	w, err := weave.New(every)
	if err != api.OK {
		return nil, err
	}
	return &listener{meant: m, queue: q, weaver: w}, api.OK
}

// join puts a listener on a mount, or nowhere: there's no title there, so the one that it has stays.
func (l *listener) join(m *mount.Mount) {
	l.on = m
	l.queue.Flush()
	if m == nil {
		return
	}
	l.weaver.Title(m.Now())
	for _, p := range m.Burst() {
		// No mount's payload is longer than a packet's may be.
		sent, _ := packet.Bytes(p)
		l.queue.Offer(sent, p.Whole)
	}
}

// next is one more byte of sound, with the block that is due behind it; nothing, if none waits.
func (l *listener) next() []byte { return l.weaver.Weave(l.queue.Take(1)...) }

// active is the mount that is heard where one is meant: itself, or what stands in for it; none, if all are silent.
func (s *Server) active(m *mount.Mount) *mount.Mount {
	// Those that stand in may go round.
	for range len(s.mounts) {
		if m == nil || m.Live() {
			return m
		}
		m = s.mounts[m.Fallback]
	}
	return nil
}

// moveAll puts all listeners where they are to be now.
func (s *Server) moveAll() {
	for _, l := range s.listeners() {
		if m := s.active(l.meant); m != l.on {
			l.join(m)
		}
	}
}

// listeners are all that listen, also nowhere.
func (s *Server) listeners() []*listener {
	var all []*listener
	for _, c := range s.rising() {
		if c.role == listens {
			all = append(all, c.listener)
		}
	}
	return all
}

func (s *Server) listenersOn(m *mount.Mount) []*listener {
	var some []*listener
	for _, l := range s.listeners() {
		if l.on == m {
			some = append(some, l)
		}
	}
	return some
}
