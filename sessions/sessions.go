// Package sessions: what a client asked for, and how it is told.
package sessions

import (
	"slices"

	"courant/api"
	"courant/messages"
	"courant/topics"
)

// Session of a client.
type Session struct {
	filters []api.Filter
	send    func(api.Packet) // nil as long as it is not connected
}

// Connect connects the session: what is told from now on is sent.
func (s *Session) Connect(send func(api.Packet)) { s.send = send }

// Disconnect leaves the session without a connection.
func (s *Session) Disconnect() { s.send = nil }

// Take gives the session a filter, in place of the same one; false, if it has
// no room for another one.
func (s *Session) Take(f api.Filter) bool {
	if i := s.find(f.Filter); i >= 0 {
		s.filters[i] = f
		return true
	}
	if len(s.filters) >= api.MaxFilters {
		return false
	}
	s.filters = append(s.filters, f)
	return true
}

// Drop takes a filter away, if the session has it.
func (s *Session) Drop(filter string) {
	if i := s.find(filter); i >= 0 {
		s.filters = slices.Delete(s.filters, i, i+1)
	}
}

// Asks tells whether the session asked for a topic, and the greatest QoS with
// which it did.
func (s *Session) Asks(topic string) (qos int, asked bool) {
	for _, f := range s.filters {
		if topics.Match(f.Filter, topic) {
			qos = max(qos, f.QoS)
			asked = true
		}
	}
	return qos, asked
}

// Tell tells a message to the session. Only what is told with QoS 0 is sent so
// far: the others need Ids, and a place to wait.
func (s *Session) Tell(m messages.Message) {
	if s.send != nil && m.QoS == 0 {
		s.send(m.Packet())
	}
}

// Look tells how the session stands.
func (s *Session) Look() api.Look {
	return api.Look{There: true, Connected: s.send != nil, Filters: len(s.filters)}
}

func (s *Session) find(filter string) int {
	return slices.IndexFunc(s.filters, func(f api.Filter) bool { return f.Filter == filter })
}
