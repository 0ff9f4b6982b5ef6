package sessions

import (
	"fmt"
	"math/rand"
	"strings"
	"testing"

	"courant/api"
	"courant/messages"
)

// client: a session, and what was sent to it since it was last asked.
type client struct {
	t *testing.T
	*Session
	sent []string
}

func begin(t *testing.T, window, queue int) *client {
	c := &client{t: t, Session: New(api.Config{Window: window, Queue: queue})}
	c.join()
	return c
}

func (c *client) join() {
	c.Connect(func(p api.Packet) { c.sent = append(c.sent, text(p)) })
}

// text of a packet: "1:a" is a message of QoS 1, "3 1:a" one with Id 3.
func text(p api.Packet) string {
	if p.Kind == api.Pubrel {
		return fmt.Sprint(p.Id, " release")
	}
	s := fmt.Sprint(p.QoS, ":", p.Payload)
	if p.Id > 0 {
		s = fmt.Sprint(p.Id, " ", s)
	}
	if p.Dup {
		s += " dup"
	}
	if p.Retain {
		s += " retain"
	}
	return s
}

func (c *client) tell(qos int, payloads ...string) {
	for _, payload := range payloads {
		c.Tell(messages.Message{Topic: "t", Payload: payload, QoS: qos})
	}
}

func (c *client) want(want string) {
	c.t.Helper()
	if got := strings.Join(c.sent, ", "); got != want {
		c.t.Fatalf("sent: %q, want %q", got, want)
	}
	c.sent = nil
}

func (c *client) wantLook(waiting, under int) {
	c.t.Helper()
	if k := c.Look(); k.Waiting != waiting || k.Under != under {
		c.t.Fatalf("%d wait and %d are under way, want %d and %d", k.Waiting, k.Under, waiting, under)
	}
}

func TestWindowAndQueue(t *testing.T) {
	for window := 1; window <= api.MaxWindow; window++ {
		for queue := range api.MaxQueue + 1 {
			for qos := 1; qos <= 2; qos++ {
				fillAndEmpty(begin(t, window, queue), window, queue, qos)
			}
		}
	}
}

// fillAndEmpty tells more than there is room for, and then all of it is done,
// one after the other.
func fillAndEmpty(c *client, window, queue, qos int) {
	c.t.Helper()
	for i := range window + queue + 3 {
		c.tell(qos, fmt.Sprint(i+1))
		if i < window {
			c.want(fmt.Sprintf("%d %d:%d", i+1, qos, i+1))
		} else {
			c.want("")
		}
		c.wantLook(min(max(i+1-window, 0), queue), min(i+1, window))
	}
	for i := range window + queue {
		id, next := i+1, i+1+window
		if qos == 2 {
			c.Release(id)
			c.want(fmt.Sprint(id, " release"))
			c.Complete(id)
		} else {
			c.Done(id)
		}
		if next <= window+queue {
			c.want(fmt.Sprintf("%d %d:%d", next, qos, next))
		} else {
			c.want("")
		}
	}
	c.wantLook(0, 0)
}

func TestNotConnected(t *testing.T) {
	for window := 1; window <= api.MaxWindow; window++ {
		for queue := range api.MaxQueue + 1 {
			c := begin(t, window, queue)
			c.Disconnect()
			for i := range queue + 2 {
				c.tell(0, "lost")
				c.tell(1, fmt.Sprint(i+1))
				c.wantLook(min(i+1, queue), 0)
			}
			c.want("")
			c.join()
			var all []string
			for i := range min(window, queue) {
				all = append(all, fmt.Sprintf("%d 1:%d", i+1, i+1))
			}
			c.want(strings.Join(all, ", "))
			c.wantLook(max(queue-window, 0), min(window, queue))
		}
	}
}

// TestWhatWaitsGoesFirst: one that is told later never goes ahead of it.
func TestWhatWaitsGoesFirst(t *testing.T) {
	c := begin(t, 1, 2)
	c.tell(1, "a", "b")
	c.want("1 1:a")
	c.tell(0, "at once")
	c.want("0:at once")
	c.Done(1)
	c.want("2 1:b")
	c.tell(2, "c")
	c.Disconnect()
	c.tell(1, "d", "dropped")
	c.join()
	c.want("2 1:b dup")
	c.Done(2)
	c.want("3 2:c")
	c.tell(1, "e", "dropped")
	c.Release(3)
	c.want("3 release")
	c.Complete(3)
	c.want("4 1:d")
	c.wantLook(1, 1)
}

func TestSentAgain(t *testing.T) {
	c := begin(t, 4, 2)
	c.tell(2, "a", "b")
	c.tell(1, "c")
	c.Tell(messages.Message{Topic: "t", Payload: "d", QoS: 2, Retain: true})
	c.Tell(messages.Message{Topic: "t", Payload: "e", QoS: 1, Retain: true})
	c.want("1 2:a, 2 2:b, 3 1:c, 4 2:d retain")
	c.Release(2)
	c.want("2 release")
	for range 3 {
		c.Disconnect()
		c.join()
		c.want("1 2:a dup, 2 release, 3 1:c dup, 4 2:d dup retain")
		c.wantLook(1, 4)
	}
	c.Done(3)
	c.want("5 1:e retain")
	c.Release(1)
	c.Complete(2)
	c.tell(1, "f")
	c.want("1 release, 6 1:f")
	c.Disconnect()
	c.join()
	c.want("1 release, 4 2:d dup retain, 5 1:e dup retain, 6 1:f dup")
}

// TestOtherAcknowledgements: what speaks of nothing under way, or of another
// QoS, or comes too early, does nothing.
func TestOtherAcknowledgements(t *testing.T) {
	c := begin(t, 3, 2)
	c.tell(1, "a")
	c.tell(2, "b", "c")
	c.tell(1, "d")
	c.want("1 1:a, 2 2:b, 3 2:c")
	c.Release(3)
	c.want("3 release")
	for _, id := range []int{-1, 0, 4, 5, 65535, 65536, 65537} {
		c.Done(id)
		c.Release(id)
		c.Complete(id)
	}
	c.Done(2)
	c.Done(3)
	c.Release(1)
	c.Complete(1)
	c.Complete(2)
	c.want("")
	c.wantLook(1, 3)
	c.Release(3)
	c.want("3 release")
	c.Complete(3)
	c.want("4 1:d")
	c.Complete(3)
	c.Release(3)
	c.want("")
	c.wantLook(0, 3)
}

func TestIdsGoRound(t *testing.T) {
	c := begin(t, 4, 0)
	c.last = 65533
	c.tell(1, "a", "b", "c", "d")
	c.want("65534 1:a, 65535 1:b, 1 1:c, 2 1:d")
	// Past those that are under way, also on both sides of the end.
	c.last = 65532
	c.Done(65535)
	c.tell(2, "e")
	c.want("65533 2:e")
	c.Done(2)
	c.tell(1, "f")
	c.want("65535 1:f")
	c.Done(65535)
	c.tell(1, "g")
	c.want("2 1:g")
	// An Id that is free again is not given before its turn.
	c.Done(1)
	c.tell(1, "h")
	c.want("3 1:h")
	c.Release(65533)
	c.Complete(65533)
	c.last = 65532
	c.tell(1, "i")
	c.want("65533 release, 65533 1:i")
	c.Done(65534)
	c.tell(1, "j")
	c.want("65534 1:j")
	c.Done(3)
	c.tell(1, "k")
	c.want("65535 1:k")
	c.Done(65535)
	c.tell(1, "l")
	c.want("1 1:l")
}

// TestReleasedIdStaysTaken: it is under way till a PUBCOMP comes.
func TestReleasedIdStaysTaken(t *testing.T) {
	c := begin(t, 2, 0)
	c.tell(2, "a")
	c.Release(1)
	c.last = 65535
	c.tell(1, "b")
	c.want("1 2:a, 1 release, 2 1:b")
}

func TestKeepsNoMoreThanItNeeds(t *testing.T) {
	c := begin(t, 2, 2)
	c.tell(2, "a", "b")
	c.Release(1)
	if m := c.under[0].message; m != (messages.Message{}) {
		t.Errorf("kept of one that is released: %+v", m)
	}
	c.Complete(1)
	if m := c.under[:2][1].message; m != (messages.Message{}) {
		t.Errorf("kept of one that is done: %+v", m)
	}
}

func TestLearn(t *testing.T) {
	s := New(api.Config{Window: 1})
	for id := 1; id <= 65535; id++ {
		if !s.Learn(id) || s.Learn(id) {
			t.Fatalf("Id %d", id)
		}
	}
	s.Forget(7)
	s.Forget(7)
	s.Connect(func(api.Packet) {})
	s.Disconnect()
	if s.Learn(6) || !s.Learn(7) || s.Learn(7) || s.Learn(8) {
		t.Error("Forget forgets another Id, or none")
	}
}

// plain: a session as the document tells it, by lists alone.
type plain struct {
	window, queue, last int
	connected           bool
	waiting             []messages.Message
	under               []api.Packet // Dup: released
	sent                []string
}

func (p *plain) tell(m messages.Message) {
	if m.QoS == 0 {
		if p.connected {
			p.sent = append(p.sent, text(api.Packet{Payload: m.Payload}))
		}
		return
	}
	p.waiting = append(p.waiting, m)
	p.goOn()
	p.waiting = p.waiting[:min(len(p.waiting), p.queue)]
}

func (p *plain) goOn() {
	for p.connected && len(p.waiting) > 0 && len(p.under) < p.window {
		for {
			p.last++
			if p.last == 65536 {
				p.last = 1
			}
			if p.find(p.last) < 0 {
				break
			}
		}
		q := api.Packet{QoS: p.waiting[0].QoS, Payload: p.waiting[0].Payload, Id: p.last}
		p.waiting = p.waiting[1:]
		p.under = append(p.under, q)
		p.sent = append(p.sent, text(q))
	}
}

func (p *plain) find(id int) int {
	for i, q := range p.under {
		if q.Id == id {
			return i
		}
	}
	return -1
}

func (p *plain) end(id, qos int, released bool) {
	if i := p.find(id); i >= 0 && p.under[i].QoS == qos && p.under[i].Dup == released {
		p.under = append(append([]api.Packet(nil), p.under[:i]...), p.under[i+1:]...)
		p.goOn()
	}
}

func (p *plain) release(id int) {
	if i := p.find(id); i >= 0 && p.under[i].QoS == 2 {
		p.under[i].Dup = true
		p.sent = append(p.sent, text(api.Packet{Kind: api.Pubrel, Id: id}))
	}
}

func (p *plain) join() {
	p.connected = true
	for _, q := range p.under {
		if q.Dup {
			q.Kind = api.Pubrel
		}
		q.Dup = true
		p.sent = append(p.sent, text(q))
	}
	p.goOn()
}

// TestAgainstLists: by chance, with Ids that go round often.
func TestAgainstLists(t *testing.T) {
	for seed := range 300 {
		r := rand.New(rand.NewSource(int64(seed)))
		p := &plain{window: 1 + r.Intn(8), queue: r.Intn(9), connected: true}
		c := begin(t, p.window, p.queue)
		for step := range 400 {
			id := 1 + r.Intn(12)
			if len(p.under) > 0 && r.Intn(2) == 0 {
				id = p.under[r.Intn(len(p.under))].Id
			}
			switch n := r.Intn(24); {
			case n < 10:
				m := messages.Message{Topic: "t", Payload: fmt.Sprint(step), QoS: r.Intn(3)}
				c.Tell(m)
				p.tell(m)
			case n == 10:
				c.Disconnect()
				p.connected = false
			case n == 11:
				c.last = 65530
				p.last = 65530
			case !p.connected:
				c.join()
				p.join()
			case n < 16:
				c.Done(id)
				p.end(id, 1, false)
			case n < 20:
				c.Release(id)
				p.release(id)
			default:
				c.Complete(id)
				p.end(id, 2, true)
			}
			c.want(strings.Join(p.sent, ", "))
			c.wantLook(len(p.waiting), len(p.under))
			p.sent = nil
		}
	}
}
