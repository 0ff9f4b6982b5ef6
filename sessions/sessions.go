// Package sessions: what a client asked for, and how it is told.
package sessions

import (
	"slices"

	"courant/api"
	"courant/messages"
	"courant/topics"
)

// Session of a client.
type Session struct {
	filters []api.Filter
	known   map[int]struct{} // Ids of what came in with QoS 2, till a PUBREL comes
	send    func(api.Packet) // nil as long as it is not connected
	window  int
	waiting chan messages.Message
	under   []underWay // in the order in which they went under way
	last    int        // the Id that was given last
}

// New makes a session that nothing was done with.
func New(c api.Config) *Session {
	return &Session{
		known:   make(map[int]struct{}),
		window:  c.Window,
		waiting: make(chan messages.Message, c.Queue),
	}
}

// Connect connects the session: what is under way is sent again, what waits
// goes on, and what is told from now on is sent.
func (s *Session) Connect(send func(api.Packet)) {
	s.send = send
	for _, u := range s.under {
		s.write(u.again())
	}
	s.goOn()
}

// Disconnect leaves the session without a connection.
func (s *Session) Disconnect() { s.send = nil }

// Take gives the session a filter, in place of the same one; false, if it has
// no room for another one.
func (s *Session) Take(f api.Filter) bool {
	if i := s.findFilter(f.Filter); i >= 0 {
		s.filters[i] = f
		return true
	}
	if len(s.filters) >= api.MaxFilters {
		return false
	}
	s.filters = append(s.filters, f)
	return true
}

// Drop takes a filter away, if the session has it.
func (s *Session) Drop(filter string) {
	if i := s.findFilter(filter); i >= 0 {
		s.filters = slices.Delete(s.filters, i, i+1)
	}
}

// Asks tells whether the session asked for a topic, and the greatest QoS with
// which it did.
func (s *Session) Asks(topic string) (qos int, asked bool) {
	for _, f := range s.filters {
		if topics.Match(f.Filter, topic) {
			qos = max(qos, f.QoS)
			asked = true
		}
	}
	return qos, asked
}

// Learn makes an Id known; false, if it was known already.
func (s *Session) Learn(id int) bool {
	if _, known := s.known[id]; known {
		return false
	}
	s.known[id] = struct{}{}
	return true
}

// Forget makes an Id known no more.
func (s *Session) Forget(id int) { delete(s.known, id) }

// Look tells how the session stands.
func (s *Session) Look() api.Look {
	return api.Look{
		There:     true,
		Connected: s.send != nil,
		Filters:   len(s.filters),
		Waiting:   len(s.waiting),
		Under:     len(s.under),
	}
}

// write sends a packet, if there is someone to send it to.
func (s *Session) write(p api.Packet) {
	if s.send != nil {
		s.send(p)
	}
}

func (s *Session) findFilter(filter string) int {
	return slices.IndexFunc(s.filters, func(f api.Filter) bool { return f.Filter == filter })
}
