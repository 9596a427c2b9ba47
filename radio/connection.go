package radio

import (
	"sideband/reply"
	"sideband/request"
)

// role is what a connection does.
type role int

// The roles.
const (
	asks role = iota
	listens
	pushes
	ended
)

// connection is a connection. Of the three parts it has the one of its role.
type connection struct {
	role     role
	ticks    int    // since it was opened; if it pushes, since it began to, or its last frame
	goes     []byte // what goes ahead of all
	request  *request.Reader
	listener *listener
	source   *source
}

// say lets a reply go.
func (c *connection) say(r reply.Reply) {
	// Only such are said as may be: names are mounts', or made of a number.
	text, _ := r.Text()
	c.goes = append(c.goes, text...)
}

// take is at most so many bytes that go. Those of packets are woven one by one, since a packet of which none went may still be lost, and a title may change till a block is due.
func (c *connection) take(n int) []byte {
	var taken []byte
	for len(taken) < n {
		if len(c.goes) == 0 && c.role == listens {
			c.goes = c.listener.next()
		}
		if len(c.goes) == 0 {
			break
		}
		some := min(n-len(taken), len(c.goes))
		taken = append(taken, c.goes[:some]...)
		c.goes = c.goes[some:]
	}
	return taken
}
