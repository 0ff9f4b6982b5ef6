package courant

import (
	"fmt"
	"math/rand"
	"strings"
	"testing"

	"courant/api"
)

// chance makes calls and packets by chance, always the same ones of a seed.
type chance struct{ *rand.Rand }

func (r chance) of(list ...string) string { return list[r.Intn(len(list))] }

func (r chance) topic() string {
	return r.of("a", "b", "a/b", "/", "$x", "a/b/c", "é", "q", "r", "s", "t")
}

func (r chance) filters(qos int) []api.Filter {
	list := make([]api.Filter, 1+r.Intn(3))
	for i := range list {
		list[i].Filter = r.of("a", "+", "#", "a/#", "a/+", "$x/#", "b", "/", "+/+")
		list[i].QoS = r.Intn(qos + 1)
	}
	return list
}

func (r chance) connect() api.Packet {
	p := api.Packet{Kind: api.Connect, Client: r.of("", "a", "b", "c", "d", "e", "f", "g", "h", "i", "j"), Clean: r.Intn(3) == 0, KeepAlive: r.Intn(3) * r.Intn(40)}
	if r.Intn(2) == 0 {
		p.Will, p.Topic, p.Payload, p.Retain, p.QoS = true, r.topic(), r.of("", "will"), r.Intn(2) == 0, r.Intn(3)
	}
	return p
}

func (r chance) publish() api.Packet {
	p := withQoS(message(r.topic(), r.of("", "1", "2", "3", "4", "5")), r.Intn(3), 1+r.Intn(5))
	p.Retain = r.Intn(3) == 0
	p.Dup = p.QoS > 0 && r.Intn(3) == 0
	return p
}

func (r chance) packet() api.Packet {
	switch r.Intn(16) {
	case 0:
		return r.connect()
	case 1, 2:
		return api.Packet{Kind: api.Subscribe, Id: 1 + r.Intn(9), Filters: r.filters(2)}
	case 3:
		return api.Packet{Kind: api.Unsubscribe, Id: 1 + r.Intn(9), Filters: r.filters(0)}
	case 4:
		if r.Intn(3) == 0 {
			return samples[r.Intn(len(samples))].p
		}
	case 5, 6, 7, 8, 9:
		return api.Packet{Kind: api.Puback + r.Intn(4), Id: 1 + r.Intn(20)}
	}
	return r.publish()
}

// data for a connection: packets, now and then broken or not whole.
func (r chance) data(t *testing.T, connected bool) []byte {
	p := r.packet()
	if !connected && r.Intn(8) > 0 {
		p = r.connect()
	}
	b := bytesOf(t, p)
	switch r.Intn(60) {
	case 0:
		b[r.Intn(len(b))] = byte(r.Intn(256))
	case 1:
		b = b[:r.Intn(len(b))]
	case 2, 3, 4:
		b = append(b, bytesOf(t, r.packet(), r.packet())...)
	}
	return b
}

// answers of the clients, by connections: what was just told is acknowledged
// often, lest all stays under way.
func (r chance) answers(t *testing.T, out []api.Out) map[int][]byte {
	all := make(map[int][]byte)
	for _, o := range out {
		p, _, _ := Decode(o.Data)
		if o.Closed || r.Intn(3) == 0 {
			continue
		}
		switch {
		case p.Kind == api.Publish && p.QoS > 0:
			all[o.Conn] = append(all[o.Conn], bytesOf(t, api.Packet{Kind: api.Puback - 1 + p.QoS, Id: p.Id})...)
		case p.Kind == api.Pubrel:
			all[o.Conn] = append(all[o.Conn], bytesOf(t, pubcomp(p.Id))...)
		}
	}
	return all
}

// feedCut hands in the same bytes in pieces.
func feedCut(b *Broker, r chance, conn int, data []byte) ([]api.Out, api.Errno) {
	all, e := b.Feed(conn)
	for len(data) > 0 && e == api.OK {
		n := 1 + r.Intn(len(data))
		out, err := b.Feed(conn, data[:n]...)
		if err == api.ErrConn {
			break // closed by an earlier piece
		}
		all, data = append(all, out...), data[n:]
	}
	return all, e
}

// twins: a broker, one that gets the same bytes cut in other places, and the
// model of both.
type twins struct {
	t         *testing.T
	r         chance
	one, two  *Broker
	m         *model
	out, outs []api.Out
	e, f      api.Errno
}

func (w *twins) close(conn int) {
	w.out, w.e = w.one.Close(conn)
	w.outs, w.f = w.two.Close(conn)
	w.expect(fmt.Sprint("Close ", conn), w.isOpen(conn), api.ErrConn, func() { w.m.cut(w.m.conns[conn]) })
}

func (w *twins) tick(n int) {
	w.out, w.e = w.one.Tick(n)
	w.outs, w.f = w.two.Tick(n)
	w.expect(fmt.Sprint("Tick ", n), n >= 0, api.ErrTick, func() { w.m.tick(n) })
}

func (w *twins) open(conn int) {
	w.out, w.outs = nil, nil
	w.e, w.f = w.one.Open(conn), w.two.Open(conn)
	may := conn >= 0 && conn < api.MaxConns && !w.isOpen(conn)
	w.expect(fmt.Sprint("Open ", conn), may, api.ErrConn, func() { w.m.open(conn) })
}

func (w *twins) feed(conn int, data []byte) {
	w.out, w.e = w.one.Feed(conn, data...)
	w.outs, w.f = feedCut(w.two, w.r, conn, data)
	w.expect(fmt.Sprint("Feed ", conn, " ", data), w.isOpen(conn), api.ErrConn, func() { w.m.feed(w.m.conns[conn], data) })
}

func (w *twins) isOpen(conn int) bool {
	return conn >= 0 && conn < api.MaxConns && w.m.conns[conn] != nil
}

// expect holds both answers against what the model does.
func (w *twins) expect(what string, may bool, wrong api.Errno, do func()) {
	w.t.Helper()
	want := wrong
	w.m.out = nil
	if may {
		want = api.OK
		do()
	}
	text := strings.Join(w.m.out, "; ")
	if w.e != want || w.f != want || show(w.out) != text || show(w.outs) != text {
		w.t.Fatalf("%s: errors %d and %d, want %d;\nwhole:  %q\npieces: %q\nwant:   %q", what, w.e, w.f, want, show(w.out), show(w.outs), text)
	}
	for _, client := range []string{"", "a", "b", "c", "d", "e", "f", "g", "h", "i", "j"} {
		k := w.m.look(client)
		if w.one.Look(client) != k || w.two.Look(client) != k {
			w.t.Fatalf("%s: Look(%q): %+v and %+v, want %+v", what, client, w.one.Look(client), w.two.Look(client), k)
		}
		if k.Under > w.m.Window || k.Waiting > w.m.Queue {
			w.t.Fatalf("%s: Look(%q): %+v of %+v", what, client, k, w.m.Config)
		}
	}
}

func (w *twins) step() {
	conn := w.r.Intn(api.MaxConns)
	switch w.r.Intn(60) {
	case 0:
		w.close(w.r.Intn(api.MaxConns+2) - 1)
	case 1:
		w.tick(w.r.Intn(12) - 1)
	case 2:
		w.open(w.r.Intn(api.MaxConns+2) - 1)
	case 3:
		w.feed(w.r.Intn(api.MaxConns+2)-1, nil)
	default:
		if !w.isOpen(conn) {
			w.open(conn)
		}
		w.feed(conn, w.r.data(w.t, w.m.conns[conn].hello != nil))
	}
	answers := w.r.answers(w.t, w.out)
	for conn := range api.MaxConns {
		if answers[conn] != nil && w.isOpen(conn) {
			w.feed(conn, answers[conn])
		}
	}
}

// TestByChance: what the model says, however the bytes are cut.
func TestByChance(t *testing.T) {
	for seed := range 200 {
		r := chance{rand.New(rand.NewSource(int64(seed)))}
		window, queue := 1+r.Intn(api.MaxWindow), r.Intn(api.MaxQueue+1)
		w := &twins{t: t, r: r, m: &model{Config: api.Config{Window: window, Queue: queue}}}
		w.one, w.two = startWith(t, window, queue).b, startWith(t, window, queue).b
		for range 300 {
			w.step()
		}
	}
}
