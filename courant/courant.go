// Package courant: messages by topics, told to all who asked for them: see DOC.md.
package courant

import (
	"errors"

	"courant/api"
	"courant/packets"
	"courant/topics"
)

// Broker of messages.
type Broker struct{}

// Encode makes a packet's bytes (P3).
func Encode(p api.Packet) ([]byte, api.Errno) {
	b, err := packets.Encode(p)
	return b, errno(err)
}

// Decode tells the packet at the beginning of some bytes (P3).
func Decode(b []byte) (api.Packet, int, api.Errno) {
	p, n, err := packets.Decode(b)
	return p, n, errno(err)
}

// Matches tells whether a filter matches a topic (P3).
func Matches(filter, topic string) bool { return topics.Match(filter, topic) }

// New makes a broker (P4).
func New(c api.Config) (*Broker, api.Errno) { return nil, api.OK }

// Open opens a connection (P4).
func (b *Broker) Open(conn int) api.Errno { return api.OK }

// Feed hands in what came in on a connection (P5).
func (b *Broker) Feed(conn int, data ...byte) ([]api.Out, api.Errno) { return nil, api.OK }

// Close says that a connection was closed (P5).
func (b *Broker) Close(conn int) ([]api.Out, api.Errno) { return nil, api.OK }

// Tick lets time pass (P7).
func (b *Broker) Tick(n int) ([]api.Out, api.Errno) { return nil, api.OK }

// Look tells how a session stands (P12).
func (b *Broker) Look(client string) api.Look { return api.Look{} }

// errno tells by number what is wrong with a packet.
func errno(err error) api.Errno {
	switch {
	case err == nil:
		return api.OK
	case errors.Is(err, packets.ErrShort):
		return api.ErrShort
	}
	return api.ErrPacket
}
