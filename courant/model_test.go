package courant

import (
	"fmt"
	"slices"
	"sort"

	"courant/api"
)

// model: a broker as the document tells it, by plain lists, and without any
// care for time or room. It tells what comes out as show does.
type model struct {
	api.Config
	conns    [api.MaxConns]*modelConn
	sessions []*modelSession
	retained []api.Packet
	clock    int
	out      []string
}

type modelConn struct {
	number, heard int
	buffer        []byte
	hello         *api.Packet
}

type modelSession struct {
	client         string
	conn           *modelConn
	filters        []api.Filter
	known          []int
	waiting, under []api.Packet // of those under way Present says: released
	last           int
}

func (m *model) tell(conn *modelConn, p api.Packet) {
	b, e := Encode(p)
	if e != api.OK {
		panic(fmt.Sprintf("the model tells what is no packet: %+v", p))
	}
	m.out = append(m.out, show([]api.Out{{Conn: conn.number, Data: b}}))
}

func (m *model) session(client string) *modelSession {
	for _, s := range m.sessions {
		if s.client == client {
			return s
		}
	}
	return nil
}

func (m *model) forget(client string) {
	m.sessions = slices.DeleteFunc(m.sessions, func(s *modelSession) bool { return s.client == client })
}

func (m *model) open(conn int) { m.conns[conn] = &modelConn{number: conn} }

func (m *model) feed(c *modelConn, data []byte) {
	c.buffer = append(c.buffer, data...)
	for m.conns[c.number] == c {
		p, n, e := Decode(c.buffer)
		if e == api.ErrShort {
			return
		}
		if e != api.OK {
			m.cut(c)
			return
		}
		c.buffer = c.buffer[n:]
		c.heard = m.clock
		m.handle(c, p)
	}
}

func (m *model) tick(n int) {
	m.clock += n
	for _, c := range m.conns {
		if c != nil && c.hello != nil && c.hello.KeepAlive > 0 && 2*(m.clock-c.heard) >= 3*c.hello.KeepAlive {
			m.cut(c)
		}
	}
}

func (m *model) end(c *modelConn) {
	m.conns[c.number] = nil
	m.out = append(m.out, fmt.Sprint(c.number, " closed"))
	if c.hello != nil {
		m.session(c.hello.Client).conn = nil
		if c.hello.Clean {
			m.forget(c.hello.Client)
		}
	}
}

func (m *model) cut(c *modelConn) {
	m.end(c)
	if c.hello != nil && c.hello.Will {
		m.publish(*c.hello)
	}
}

func (m *model) handle(c *modelConn, p api.Packet) {
	if (p.Kind == api.Connect) != (c.hello == nil) {
		m.cut(c)
		return
	}
	if p.Kind == api.Connect {
		m.connect(c, p)
		return
	}
	s := m.session(c.hello.Client)
	switch p.Kind {
	case api.Publish:
		m.receive(s, p)
	case api.Pubrel:
		s.known = slices.DeleteFunc(s.known, func(id int) bool { return id == p.Id })
		m.tell(c, api.Packet{Kind: api.Pubcomp, Id: p.Id})
	case api.Puback, api.Pubrec, api.Pubcomp:
		m.acknowledged(s, p)
	case api.Subscribe:
		m.subscribe(s, p)
	case api.Unsubscribe:
		for _, f := range p.Filters {
			s.filters = slices.DeleteFunc(s.filters, func(have api.Filter) bool { return have.Filter == f.Filter })
		}
		m.tell(c, api.Packet{Kind: api.Unsuback, Id: p.Id})
	case api.Pingreq:
		m.tell(c, api.Packet{Kind: api.Pingresp})
	case api.Disconnect:
		m.end(c)
	default:
		m.cut(c)
	}
}

func (m *model) connect(c *modelConn, p api.Packet) {
	code := 0
	if p.Client == "" {
		code = 2
	} else if m.session(p.Client) == nil && len(m.sessions) == api.MaxSessions {
		code = 3
	}
	if code != 0 {
		m.tell(c, api.Packet{Kind: api.Connack, Code: code})
		m.end(c)
		return
	}
	if s := m.session(p.Client); s != nil && s.conn != nil {
		m.cut(s.conn)
	}
	if p.Clean {
		m.forget(p.Client)
	}
	s := m.session(p.Client)
	present := s != nil
	if !present {
		s = &modelSession{client: p.Client}
		m.sessions = append(m.sessions, s)
		sort.Slice(m.sessions, func(i, k int) bool { return m.sessions[i].client < m.sessions[k].client })
	}
	s.conn, c.hello = c, &p
	m.tell(c, api.Packet{Kind: api.Connack, Present: present})
	for _, u := range s.under {
		if u.Present {
			m.tell(c, api.Packet{Kind: api.Pubrel, Id: u.Id})
		} else {
			u.Dup = true
			m.tell(c, u)
		}
	}
	m.goOn(s)
}

func (m *model) receive(s *modelSession, p api.Packet) {
	switch p.QoS {
	case 0:
		m.publish(p)
	case 1:
		m.publish(p)
		m.tell(s.conn, api.Packet{Kind: api.Puback, Id: p.Id})
	case 2:
		if !slices.Contains(s.known, p.Id) {
			s.known = append(s.known, p.Id)
			m.publish(p)
		}
		m.tell(s.conn, api.Packet{Kind: api.Pubrec, Id: p.Id})
	}
}

func (m *model) publish(p api.Packet) {
	if p.Retain {
		m.retain(p)
	}
	for _, s := range m.sessions {
		greatest := -1
		for _, f := range s.filters {
			if Matches(f.Filter, p.Topic) {
				greatest = max(greatest, f.QoS)
			}
		}
		if greatest >= 0 {
			m.toldTo(s, p, greatest, false)
		}
	}
}

func (m *model) retain(p api.Packet) {
	i := slices.IndexFunc(m.retained, func(r api.Packet) bool { return r.Topic == p.Topic })
	if i < 0 && len(m.retained) == api.MaxRetained {
		return
	}
	if i >= 0 {
		m.retained = slices.Delete(m.retained, i, i+1)
	}
	if p.Payload != "" {
		m.retained = append(m.retained, p)
		sort.Slice(m.retained, func(i, k int) bool { return m.retained[i].Topic < m.retained[k].Topic })
	}
}

func (m *model) toldTo(s *modelSession, p api.Packet, qos int, retain bool) {
	p = api.Packet{Kind: api.Publish, Topic: p.Topic, Payload: p.Payload, QoS: min(p.QoS, qos), Retain: retain}
	if p.QoS == 0 {
		if s.conn != nil {
			m.tell(s.conn, p)
		}
		return
	}
	s.waiting = append(s.waiting, p)
	m.goOn(s)
	s.waiting = s.waiting[:min(len(s.waiting), m.Queue)]
}

func (s *modelSession) find(id int) int {
	return slices.IndexFunc(s.under, func(u api.Packet) bool { return u.Id == id })
}

func (m *model) goOn(s *modelSession) {
	for s.conn != nil && len(s.waiting) > 0 && len(s.under) < m.Window {
		for s.last++; s.last > 65535 || s.find(s.last) >= 0; s.last++ {
			if s.last > 65535 {
				s.last = 0
			}
		}
		p := s.waiting[0]
		p.Id = s.last
		s.waiting = s.waiting[1:]
		s.under = append(s.under, p)
		m.tell(s.conn, p)
	}
}

func (m *model) acknowledged(s *modelSession, p api.Packet) {
	i := s.find(p.Id)
	if i < 0 {
		return
	}
	u := &s.under[i]
	switch {
	case p.Kind == api.Puback && u.QoS == 1, p.Kind == api.Pubcomp && u.Present:
		s.under = append(slices.Clone(s.under[:i]), s.under[i+1:]...)
		m.goOn(s)
	case p.Kind == api.Pubrec && u.QoS == 2:
		u.Present = true
		m.tell(s.conn, api.Packet{Kind: api.Pubrel, Id: p.Id})
	}
}

func (m *model) subscribe(s *modelSession, p api.Packet) {
	codes := []int{}
	for _, f := range p.Filters {
		i := slices.IndexFunc(s.filters, func(have api.Filter) bool { return have.Filter == f.Filter })
		code := f.QoS
		switch {
		case i >= 0:
			s.filters[i] = f
		case len(s.filters) < api.MaxFilters:
			s.filters = append(s.filters, f)
		default:
			code = 128
		}
		codes = append(codes, code)
	}
	m.tell(s.conn, api.Packet{Kind: api.Suback, Id: p.Id, Codes: codes})
	for i, f := range p.Filters {
		for _, r := range m.retained {
			if codes[i] != 128 && Matches(f.Filter, r.Topic) {
				m.toldTo(s, r, f.QoS, true)
			}
		}
	}
}

func (m *model) look(client string) api.Look {
	s := m.session(client)
	if s == nil {
		return api.Look{}
	}
	return api.Look{There: true, Connected: s.conn != nil, Filters: len(s.filters), Waiting: len(s.waiting), Under: len(s.under)}
}
