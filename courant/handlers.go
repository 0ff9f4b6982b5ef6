package courant

import (
	"maps"
	"slices"

	"courant/api"
	"courant/messages"
	"courant/packets"
	"courant/sessions"
)

// handlers: what is done with a packet, by its kind.
type handlers [packets.Kinds]func(api.Packet)

// Codes of a CONNACK.
const (
	accepted    = 0
	wrongClient = 2
	noRoom      = 3
)

// nothingAllowed cuts a connection off, whatever comes.
func (b *Broker) nothingAllowed(c *connection) handlers {
	var h handlers
	for kind := range h {
		h[kind] = func(api.Packet) { b.cutOff(c) }
	}
	return h
}

// beforeConnect is what is done with the first packet of a connection.
func (b *Broker) beforeConnect(c *connection) handlers {
	h := b.nothingAllowed(c)
	h[packets.Connect] = func(p api.Packet) { b.connect(c, p) }
	return h
}

// onceConnected is what is done with all packets behind the first one.
func (b *Broker) onceConnected(c *connection) handlers {
	h := b.nothingAllowed(c)
	h[packets.Publish] = func(p api.Packet) { b.receive(c, p) }
	h[packets.Puback] = func(p api.Packet) { c.session.Done(p.Id) }
	h[packets.Pubrec] = func(p api.Packet) { c.session.Release(p.Id) }
	h[packets.Pubrel] = func(p api.Packet) { b.forget(c, p) }
	h[packets.Pubcomp] = func(p api.Packet) { c.session.Complete(p.Id) }
	h[packets.Subscribe] = func(p api.Packet) { b.subscribe(c, p) }
	h[packets.Unsubscribe] = func(p api.Packet) { b.unsubscribe(c, p) }
	h[packets.Pingreq] = func(api.Packet) { b.write(c, api.Packet{Kind: packets.Pingresp}) }
	h[packets.Disconnect] = func(api.Packet) { b.shut(c) }
	return h
}

func (b *Broker) connect(c *connection, p api.Packet) {
	if p.Client == "" {
		b.refuse(c, wrongClient)
		return
	}
	if b.sessions[p.Client] == nil && len(b.sessions) >= api.MaxSessions {
		b.refuse(c, noRoom)
		return
	}
	if other := b.connectedFor(p.Client); other != nil {
		b.cutOff(other)
	}
	if p.Clean {
		delete(b.sessions, p.Client)
	}
	s, present := b.sessions[p.Client]
	if !present {
		s = sessions.New(b.config)
		b.sessions[p.Client] = s
	}
	c.session, c.hello, c.handlers = s, p, b.onceConnected(c)
	b.write(c, api.Packet{Kind: packets.Connack, Present: present, Code: accepted})
	s.Connect(func(p api.Packet) { b.write(c, p) })
}

func (b *Broker) refuse(c *connection, code int) {
	b.write(c, api.Packet{Kind: packets.Connack, Code: code})
	b.shut(c)
}

// receive publishes the message of a PUBLISH, but not one of QoS 2 that was
// published already, and answers.
func (b *Broker) receive(c *connection, p api.Packet) {
	if p.QoS < 2 || c.session.Learn(p.Id) {
		b.publish(messages.Of(p))
	}
	switch p.QoS {
	case 1:
		b.write(c, api.Packet{Kind: packets.Puback, Id: p.Id})
	case 2:
		b.write(c, api.Packet{Kind: packets.Pubrec, Id: p.Id})
	}
}

// forget lets an Id be used for another message. It answers each time, since
// the first answer may be lost.
func (b *Broker) forget(c *connection, p api.Packet) {
	c.session.Forget(p.Id)
	b.write(c, api.Packet{Kind: packets.Pubcomp, Id: p.Id})
}

// publish retains a message, if it asks for that, and tells it to all sessions
// that asked for its topic, by their clients.
func (b *Broker) publish(m messages.Message) {
	if m.Retain {
		b.retained.Keep(m)
	}
	for _, client := range slices.Sorted(maps.Keys(b.sessions)) {
		s := b.sessions[client]
		if qos, asked := s.Asks(m.Topic); asked {
			s.Tell(m.Told(qos, false))
		}
	}
}

func (b *Broker) subscribe(c *connection, p api.Packet) {
	var taken []api.Filter
	var codes []int
	for _, f := range p.Filters {
		if c.session.Take(f) {
			taken = append(taken, f)
			codes = append(codes, f.QoS)
		} else {
			codes = append(codes, packets.Refused)
		}
	}
	b.write(c, api.Packet{Kind: packets.Suback, Id: p.Id, Codes: codes})
	for _, f := range taken {
		b.tellRetained(c.session, f)
	}
}

// tellRetained goes by the QoS that was asked for with this filter, even if it
// stands in the packet once more with another one.
func (b *Broker) tellRetained(s *sessions.Session, f api.Filter) {
	for _, m := range b.retained.Matching(f.Filter) {
		s.Tell(m.Told(f.QoS, true))
	}
}

func (b *Broker) unsubscribe(c *connection, p api.Packet) {
	for _, f := range p.Filters {
		c.session.Drop(f.Filter)
	}
	b.write(c, api.Packet{Kind: packets.Unsuback, Id: p.Id})
}
