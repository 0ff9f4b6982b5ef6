// Package courant: messages by topics, told to all who asked for them: see DOC.md.
package courant

import (
	"errors"

	"courant/api"
	"courant/messages"
	"courant/packets"
	"courant/sessions"
	"courant/topics"
)

// Broker of messages.
type Broker struct {
	config   api.Config
	conns    [api.MaxConns]*connection // nil: not open
	sessions map[string]*sessions.Session
	retained messages.Retained
	clock    int64     // int may be too narrow for many great ticks
	out      []api.Out // of the call that is going on
}

// Encode makes a packet's bytes (P3).
func Encode(p api.Packet) ([]byte, api.Errno) {
	b, err := packets.Encode(p)
	return b, errno(err)
}

// Decode tells the packet at the beginning of some bytes (P3).
func Decode(b []byte) (api.Packet, int, api.Errno) {
	p, n, err := packets.Decode(b)
	return p, n, errno(err)
}

// Matches tells whether a filter matches a topic (P3).
func Matches(filter, topic string) bool { return topics.Match(filter, topic) }

// New makes a broker (P4).
func New(c api.Config) (*Broker, api.Errno) {
	if c.Window < 1 || c.Window > api.MaxWindow || c.Queue < 0 || c.Queue > api.MaxQueue {
		return nil, api.ErrConfig
	}
	return &Broker{config: c, sessions: make(map[string]*sessions.Session)}, api.OK
}

// Open opens a connection (P4).
func (b *Broker) Open(conn int) api.Errno {
	if !isNumber(conn) || b.conns[conn] != nil {
		return api.ErrConn
	}
	c := &connection{number: conn}
	c.handlers = b.beforeConnect(c)
	b.conns[conn] = c
	return api.OK
}

// Feed hands in what came in on a connection (P5).
func (b *Broker) Feed(conn int, data ...byte) ([]api.Out, api.Errno) {
	if !b.isOpen(conn) {
		return nil, api.ErrConn
	}
	b.read(b.conns[conn], data)
	return b.takeOut(), api.OK
}

// Close says that a connection was closed (P5).
func (b *Broker) Close(conn int) ([]api.Out, api.Errno) {
	if !b.isOpen(conn) {
		return nil, api.ErrConn
	}
	b.cutOff(b.conns[conn])
	return b.takeOut(), api.OK
}

// Tick lets time pass (P7).
func (b *Broker) Tick(n int) ([]api.Out, api.Errno) {
	if n < 0 || n > api.MaxTick {
		return nil, api.ErrTick
	}
	b.clock += int64(n)
	for _, c := range b.conns {
		if c != nil && c.isSilent(b.clock) {
			b.cutOff(c)
		}
	}
	return b.takeOut(), api.OK
}

// Look tells how a session stands (P12).
func (b *Broker) Look(client string) api.Look {
	s, there := b.sessions[client]
	if !there {
		return api.Look{}
	}
	return s.Look()
}

// errno tells by number what is wrong with a packet.
func errno(err error) api.Errno {
	switch {
	case err == nil:
		return api.OK
	case errors.Is(err, packets.ErrShort):
		return api.ErrShort
	}
	return api.ErrPacket
}
