package courant

import (
	"math/rand"
	"testing"

	"courant/api"
)

// chance makes calls and packets by chance, always the same ones of a seed.
type chance struct{ *rand.Rand }

func (r chance) of(list ...string) string { return list[r.Intn(len(list))] }

func (r chance) topic() string {
	return r.of("a", "b", "a/b", "/", "$x", "a/b/c", "é", "q", "r", "s", "t")
}

func (r chance) filters() []api.Filter {
	list := make([]api.Filter, 1+r.Intn(3))
	for i := range list {
		list[i].Filter = r.of("a", "+", "#", "a/#", "a/+", "$x/#", "b", "/", "+/+")
	}
	return list
}

func (r chance) packet() api.Packet {
	switch r.Intn(10) {
	case 0, 1, 2:
		p := api.Packet{Kind: api.Connect, Client: r.of("", "a", "b", "c", "d", "e", "f", "g", "h", "i", "j"), Clean: r.Intn(2) == 0, KeepAlive: r.Intn(3) * r.Intn(20)}
		if r.Intn(2) == 0 {
			p.Will, p.Topic, p.Payload, p.Retain = true, r.topic(), r.of("", "will"), r.Intn(2) == 0
		}
		return p
	case 3, 4:
		return api.Packet{Kind: api.Subscribe, Id: 1 + r.Intn(9), Filters: r.filters()}
	case 5:
		return api.Packet{Kind: api.Unsubscribe, Id: 1 + r.Intn(9), Filters: r.filters()}
	case 6:
		return samples[r.Intn(len(samples))].p
	}
	return api.Packet{Kind: api.Publish, Topic: r.topic(), Payload: r.of("", "1", "2"), Retain: r.Intn(2) == 0}
}

func (r chance) data(t *testing.T) []byte {
	b := bytesOf(t, r.packet())
	switch r.Intn(12) {
	case 0:
		b[r.Intn(len(b))] = byte(r.Intn(256))
	case 1:
		b = b[:r.Intn(len(b))]
	case 2:
		b = append(b, bytesOf(t, r.packet(), r.packet())...)
	}
	return b
}

// opened follows which connections are open, by what came out.
type opened [api.MaxConns]bool

func (open *opened) follow(t *testing.T, out []api.Out) {
	t.Helper()
	for _, o := range out {
		if !open[o.Conn] {
			t.Fatalf("told to a connection that is closed: %q", show(out))
		}
		p, n, e := Decode(o.Data)
		if o.Closed == (len(o.Data) > 0) || !o.Closed && (e != api.OK || n != len(o.Data)) {
			t.Fatalf("neither one packet nor closed: %+v", o)
		}
		if p.Kind == api.Connect || p.Kind == api.Subscribe || p.Kind == api.Pingreq || p.Kind == api.Disconnect {
			t.Fatalf("no packet of a broker: %+v", p)
		}
		open[o.Conn] = !o.Closed
	}
}

// feedCut hands in the same bytes in pieces.
func feedCut(b *Broker, r chance, conn int, data []byte) ([]api.Out, api.Errno) {
	all, e := b.Feed(conn)
	for len(data) > 0 && e == api.OK {
		n := 1 + r.Intn(len(data))
		out, err := b.Feed(conn, data[:n]...)
		if err == api.ErrConn {
			break // closed by an earlier piece
		}
		all, data = append(all, out...), data[n:]
	}
	return all, e
}

// TestByChance: two brokers get the same, the second one cut into pieces.
func TestByChance(t *testing.T) {
	for seed := range 200 {
		r := chance{rand.New(rand.NewSource(int64(seed)))}
		a, b := start(t).b, start(t).b
		var open opened
		for range 300 {
			conn := r.Intn(api.MaxConns+2) - 1
			is := conn >= 0 && conn < api.MaxConns && open[conn]
			var out, again []api.Out
			var e, f, want api.Errno
			switch r.Intn(12) {
			case 0:
				out, e = a.Close(conn)
				again, f = b.Close(conn)
				want = errnoIf(!is, api.ErrConn)
			case 1:
				n := r.Intn(12) - 1
				out, e = a.Tick(n)
				again, f = b.Tick(n)
				want = errnoIf(n < 0, api.ErrTick)
			case 2, 3:
				e, f = a.Open(conn), b.Open(conn)
				want = errnoIf(is || conn < 0 || conn >= api.MaxConns, api.ErrConn)
				if e == api.OK {
					open[conn] = true
				}
			default:
				data := r.data(t)
				out, e = a.Feed(conn, data...)
				again, f = feedCut(b, r, conn, data)
				want = errnoIf(!is, api.ErrConn)
			}
			if e != want || f != want || show(out) != show(again) {
				t.Fatalf("seed %d: %d and %d, want %d; %q and %q", seed, e, f, want, show(out), show(again))
			}
			open.follow(t, out)
			checkLooks(t, a, b)
		}
	}
}

func errnoIf(so bool, e api.Errno) api.Errno {
	if so {
		return e
	}
	return api.OK
}

func checkLooks(t *testing.T, a, b *Broker) {
	t.Helper()
	there := 0
	for _, client := range []string{"", "a", "b", "c", "d", "e", "f", "g", "h", "i", "j"} {
		k := a.Look(client)
		if k != b.Look(client) {
			t.Fatalf("Look(%q): %+v and %+v", client, k, b.Look(client))
		}
		if k.There {
			there++
		} else if k != (api.Look{}) {
			t.Fatalf("Look(%q) of none: %+v", client, k)
		}
		if k.Filters > api.MaxFilters || client == "" && k.There {
			t.Fatalf("Look(%q): %+v", client, k)
		}
	}
	if there > api.MaxSessions {
		t.Fatalf("%d sessions", there)
	}
}
