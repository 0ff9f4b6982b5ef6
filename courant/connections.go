package courant

import (
	"bytes"
	"errors"

	"courant/api"
	"courant/messages"
	"courant/packets"
	"courant/sessions"
)

// connection that is open.
type connection struct {
	number   int
	waiting  []byte // what came in and is no whole packet yet
	handlers handlers
	heard    int64             // the clock, when its last packet was handled
	session  *sessions.Session // nil: not connected
	hello    api.Packet        // the CONNECT by which it is connected
}

// isSilent tells whether no packet came for KeepAlive and a half.
func (c *connection) isSilent(clock int64) bool {
	limit := int64(c.hello.KeepAlive)
	return limit > 0 && 2*(clock-c.heard) >= 3*limit
}

func isNumber(conn int) bool { return conn >= 0 && conn < api.MaxConns }

func (b *Broker) isOpen(conn int) bool { return isNumber(conn) && b.conns[conn] != nil }

// read handles the packets of what waits on a connection and of data behind it.
func (b *Broker) read(c *connection, data []byte) {
	rest := append(c.waiting, data...)
	for b.isOpen(c.number) {
		p, n, err := packets.Decode(rest)
		if errors.Is(err, packets.ErrShort) {
			// A copy, lest a few bytes hold on to all that came in.
			c.waiting = bytes.Clone(rest)
			return
		}
		if err != nil {
			b.cutOff(c)
			return
		}
		rest = rest[n:]
		c.heard = b.clock
		c.handlers[p.Kind](p)
	}
}

// write lets a packet be written to a connection. Each one that the broker
// makes has bytes, since what it tells is never longer than what came in.
func (b *Broker) write(c *connection, p api.Packet) {
	data, _ := packets.Encode(p)
	b.out = append(b.out, api.Out{Conn: c.number, Data: data})
}

// shut closes a connection, without a will.
func (b *Broker) shut(c *connection) {
	b.conns[c.number] = nil
	b.out = append(b.out, api.Out{Conn: c.number, Closed: true})
	if c.session == nil {
		return
	}
	c.session.Disconnect()
	if c.hello.Clean {
		delete(b.sessions, c.hello.Client)
	}
}

// cutOff closes a connection, and then its will is published.
func (b *Broker) cutOff(c *connection) {
	b.shut(c)
	if c.hello.Will {
		b.publish(messages.Of(c.hello))
	}
}

// connectedFor finds the connection of a client; nil, if there is none.
func (b *Broker) connectedFor(client string) *connection {
	for _, c := range b.conns {
		if c != nil && c.session != nil && c.hello.Client == client {
			return c
		}
	}
	return nil
}

// takeOut ends a call: what came out is the caller's, and the broker keeps
// none of it.
func (b *Broker) takeOut() []api.Out {
	out := b.out
	b.out = nil
	return out
}
