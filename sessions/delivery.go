package sessions

import (
	"math"
	"slices"

	"courant/api"
	"courant/messages"
	"courant/packets"
)

const maxId = math.MaxUint16

// underWay: a message of QoS 1 or 2 that was sent and is not done yet. Once
// it is released only its Id is sent, and so the message is kept no longer.
type underWay struct {
	id       int
	qos      int
	released bool
	message  messages.Message
}

// again is what is sent when the session goes on.
func (u underWay) again() api.Packet {
	if u.released {
		return pubrel(u.id)
	}
	p := u.message.Packet(u.id)
	p.Dup = true
	return p
}

func pubrel(id int) api.Packet { return api.Packet{Kind: packets.Pubrel, Id: id} }

// Tell tells a message to the session. As long as one may go under way nothing
// waits that would have to go ahead of it: goOn has seen to that.
func (s *Session) Tell(m messages.Message) {
	switch {
	case m.QoS == 0:
		s.write(m.Packet(0))
	case s.mayGo():
		s.begin(m)
	default:
		s.wait(m)
	}
}

// Done ends what is under way with an Id and QoS 1: a PUBACK came.
func (s *Session) Done(id int) {
	s.end(func(u underWay) bool { return u.id == id && u.qos == 1 })
}

// Release releases what is under way with an Id and QoS 2: a PUBREC came. It
// answers each time, since the first answer may be lost.
func (s *Session) Release(id int) {
	i := s.findId(id)
	if i < 0 || s.under[i].qos != 2 {
		return
	}
	s.under[i] = underWay{id: id, qos: 2, released: true}
	s.write(pubrel(id))
}

// Complete ends what is under way with an Id and released: a PUBCOMP came.
func (s *Session) Complete(id int) {
	s.end(func(u underWay) bool { return u.id == id && u.released })
}

// mayGo tells whether another message may go under way.
func (s *Session) mayGo() bool { return s.send != nil && len(s.under) < s.window }

// begin lets a message go under way.
func (s *Session) begin(m messages.Message) {
	s.last = s.nextId()
	s.under = append(s.under, underWay{id: s.last, qos: m.QoS, message: m})
	s.write(m.Packet(s.last))
}

// wait keeps a message till it may go under way; it is dropped if too many
// wait already.
func (s *Session) wait(m messages.Message) {
	select {
	case s.waiting <- m:
	default:
	}
}

// goOn lets what waits go under way, as far as it may.
func (s *Session) goOn() {
	for s.mayGo() {
		select {
		case m := <-s.waiting:
			s.begin(m)
		default:
			return
		}
	}
}

// end takes away what is done, and so others may go under way in its place.
func (s *Session) end(done func(underWay) bool) {
	s.under = slices.DeleteFunc(s.under, done)
	s.goOn()
}

// nextId finds a free Id. There are far more of them than may be under way.
func (s *Session) nextId() int {
	id := after(s.last)
	for s.findId(id) >= 0 {
		id = after(id)
	}
	return id
}

// after is the Id behind another one; they go round, without 0.
func after(id int) int { return id%maxId + 1 }

func (s *Session) findId(id int) int {
	return slices.IndexFunc(s.under, func(u underWay) bool { return u.id == id })
}
