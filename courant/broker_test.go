package courant

import (
	"fmt"
	"math"
	"strings"
	"testing"

	"courant/api"
)

// trial: a broker, and what a test wants of it.
type trial struct {
	t *testing.T
	b *Broker
}

func start(t *testing.T) *trial {
	t.Helper()
	return startWith(t, 2, 2)
}

func startWith(t *testing.T, window, queue int) *trial {
	t.Helper()
	b, e := New(api.Config{Window: window, Queue: queue})
	if b == nil || e != api.OK {
		t.Fatalf("New = %v, %d", b, e)
	}
	return &trial{t, b}
}

// show tells what came out as a text: "0 CONNACK 0; 1 closed".
func show(out []api.Out) string {
	var all []string
	for _, o := range out {
		all = append(all, fmt.Sprint(o.Conn, " ", showOne(o)))
	}
	return strings.Join(all, "; ")
}

var names = map[int]string{
	api.Puback: "PUBACK", api.Pubrec: "PUBREC", api.Pubrel: "PUBREL", api.Pubcomp: "PUBCOMP", api.Unsuback: "UNSUBACK",
}

func showOne(o api.Out) string {
	if o.Closed {
		if o.Data != nil {
			return fmt.Sprintf("closed, but with bytes: %q", o.Data)
		}
		return "closed"
	}
	p, n, e := Decode(o.Data)
	if e != api.OK || n != len(o.Data) {
		return fmt.Sprintf("not one packet: %q", o.Data)
	}
	switch p.Kind {
	case api.Connack:
		return fmt.Sprint("CONNACK ", p.Code, mark(p.Present, " present"))
	case api.Publish:
		return fmt.Sprint("PUBLISH ", p.Topic, "=", p.Payload, mark(p.QoS > 0, fmt.Sprint(" QoS ", p.QoS, " Id ", p.Id)), mark(p.Dup, " dup"), mark(p.Retain, " retain"))
	case api.Suback:
		return fmt.Sprintf("SUBACK %d %v", p.Id, p.Codes)
	case api.Puback, api.Pubrec, api.Pubrel, api.Pubcomp, api.Unsuback:
		return fmt.Sprint(names[p.Kind], " ", p.Id)
	case api.Pingresp:
		return "PINGRESP"
	}
	return fmt.Sprintf("%+v", p)
}

func mark(so bool, s string) string {
	if so {
		return s
	}
	return ""
}

// bytesOf makes the bytes of packets, one behind the other.
func bytesOf(t *testing.T, list ...api.Packet) []byte {
	t.Helper()
	var all []byte
	for _, p := range list {
		b, e := Encode(p)
		if e != api.OK {
			t.Fatalf("Encode(%+v): %d", p, e)
		}
		all = append(all, b...)
	}
	return all
}

func (l *trial) want(out []api.Out, e api.Errno, want string) {
	l.t.Helper()
	if got := show(out); got != want || e != api.OK {
		l.t.Fatalf("came out: %q, error %d; want: %q", got, e, want)
	}
}

func (l *trial) open(conn int) {
	l.t.Helper()
	if e := l.b.Open(conn); e != api.OK {
		l.t.Fatalf("Open(%d): %d", conn, e)
	}
}

func (l *trial) feed(conn int, data, want string) {
	l.t.Helper()
	out, e := l.b.Feed(conn, []byte(data)...)
	l.want(out, e, want)
}

func (l *trial) send(conn int, p api.Packet, want string) {
	l.t.Helper()
	l.feed(conn, string(bytesOf(l.t, p)), want)
}

// join opens a connection and connects it.
func (l *trial) join(conn int, p api.Packet, want string) {
	l.t.Helper()
	l.open(conn)
	l.send(conn, p, want)
}

func (l *trial) close(conn int, want string) {
	l.t.Helper()
	out, e := l.b.Close(conn)
	l.want(out, e, want)
}

func (l *trial) tick(n int, want string) {
	l.t.Helper()
	out, e := l.b.Tick(n)
	l.want(out, e, want)
}

func (l *trial) look(client string, want api.Look) {
	l.t.Helper()
	if got := l.b.Look(client); got != want {
		l.t.Fatalf("Look(%q) = %+v, want %+v", client, got, want)
	}
}

func (l *trial) wantNotOpen(conn int) {
	l.t.Helper()
	for _, data := range []string{"", "\xc0\x00", "\x00"} {
		if out, e := l.b.Feed(conn, []byte(data)...); out != nil || e != api.ErrConn {
			l.t.Fatalf("Feed(%d, %q) = %v, %d", conn, data, out, e)
		}
	}
	if out, e := l.b.Close(conn); out != nil || e != api.ErrConn {
		l.t.Fatalf("Close(%d) = %v, %d", conn, out, e)
	}
}

var (
	ping  = api.Packet{Kind: api.Pingreq}
	leave = api.Packet{Kind: api.Disconnect}
)

// clean and lasting: a CONNECT with Clean, and one without.
func clean(client string) api.Packet {
	return api.Packet{Kind: api.Connect, Clean: true, Client: client}
}

func lasting(client string) api.Packet { return api.Packet{Kind: api.Connect, Client: client} }

// withWill gives a CONNECT the will "gone", whose payload is the client.
func withWill(p api.Packet) api.Packet {
	p.Will, p.Topic, p.Payload = true, "gone", p.Client
	return p
}

func message(topic, payload string) api.Packet {
	return api.Packet{Kind: api.Publish, Topic: topic, Payload: payload}
}

func retained(topic, payload string) api.Packet {
	p := message(topic, payload)
	p.Retain = true
	return p
}

// asking: a SUBSCRIBE of filters with QoS 0.
func asking(filters ...string) api.Packet {
	p := api.Packet{Kind: api.Subscribe, Id: 5}
	for _, f := range filters {
		p.Filters = append(p.Filters, api.Filter{Filter: f})
	}
	return p
}

func leaving(filters ...string) api.Packet {
	p := asking(filters...)
	p.Kind = api.Unsubscribe
	return p
}

// watch connects a client on the last connection that asks for every topic.
func (l *trial) watch() {
	l.t.Helper()
	l.join(7, clean("watch"), "7 CONNACK 0")
	l.send(7, asking("#"), "7 SUBACK 5 [0]")
}

func TestNewConfig(t *testing.T) {
	numbers := []int{math.MinInt, -1, 0, 1, 2, 7, 8, 9, 1 << 32, math.MaxInt}
	for _, window := range numbers {
		for _, queue := range numbers {
			b, e := New(api.Config{Window: window, Queue: queue})
			good := window >= 1 && window <= 8 && queue >= 0 && queue <= 8
			if good != (b != nil) || good != (e == api.OK) || !good && e != api.ErrConfig {
				t.Errorf("New(%d, %d) = %v, %d", window, queue, b, e)
			}
		}
	}
}

func TestNewIsEmpty(t *testing.T) {
	l := start(t)
	for conn := range api.MaxConns {
		l.wantNotOpen(conn)
	}
	l.look("", api.Look{})
	l.look("c", api.Look{})
	l.join(0, clean("c"), "0 CONNACK 0")
	l.send(0, asking("#", "$x/#"), "0 SUBACK 5 [0 0]")
}

func TestOpenNumbers(t *testing.T) {
	l := start(t)
	for _, conn := range []int{math.MinInt, -8, -1, 8, 9, 1 << 32, math.MaxInt} {
		if e := l.b.Open(conn); e != api.ErrConn {
			t.Errorf("Open(%d): %d", conn, e)
		}
		l.wantNotOpen(conn)
	}
	for conn := range 8 {
		l.wantNotOpen(conn)
		l.open(conn)
		l.feed(conn, "", "")
	}
	for conn := range 8 {
		l.close(conn, fmt.Sprint(conn, " closed"))
		l.wantNotOpen(conn)
	}
}

func TestOpenTwiceChangesNothing(t *testing.T) {
	l := start(t)
	l.join(0, lasting("c"), "0 CONNACK 0")
	l.feed(0, "\xc0", "")
	if e := l.b.Open(0); e != api.ErrConn {
		t.Errorf("Open: %d", e)
	}
	l.look("c", api.Look{There: true, Connected: true})
	l.feed(0, "\x00", "0 PINGRESP")
}

func TestOpenAgainBeginsAnew(t *testing.T) {
	l := start(t)
	l.join(0, lasting("c"), "0 CONNACK 0")
	l.feed(0, "\xc0", "")
	l.close(0, "0 closed")
	l.open(0)
	l.send(0, clean("d"), "0 CONNACK 0")
	l.close(0, "0 closed")
	l.open(0)
	l.send(0, ping, "0 closed")
}

func TestWrongTickChangesNothing(t *testing.T) {
	l := start(t)
	p := clean("c")
	p.KeepAlive = 10
	l.join(0, p, "0 CONNACK 0")
	l.tick(14, "")
	for _, n := range []int{math.MinInt, -100000, -1, 100001, 1 << 32, math.MaxInt} {
		if out, e := l.b.Tick(n); out != nil || e != api.ErrTick {
			t.Errorf("Tick(%d) = %v, %d", n, out, e)
		}
	}
	l.tick(0, "")
	l.tick(1, "0 closed")
	l.tick(100000, "")
}

func TestLook(t *testing.T) {
	l := start(t)
	l.open(1)
	l.look("", api.Look{})
	l.look("lasting", api.Look{})
	l.look(repeat(100000), api.Look{})
	l.send(1, lasting("lasting"), "1 CONNACK 0")
	l.join(2, clean("clean"), "2 CONNACK 0")
	l.look("lasting", api.Look{There: true, Connected: true})
	l.look("last", api.Look{})
	l.send(1, asking("a", "b", "c"), "1 SUBACK 5 [0 0 0]")
	l.send(2, asking("a"), "2 SUBACK 5 [0]")
	l.look("lasting", api.Look{There: true, Connected: true, Filters: 3})
	l.look("clean", api.Look{There: true, Connected: true, Filters: 1})
	l.send(1, leaving("b"), "1 UNSUBACK 5")
	l.close(1, "1 closed")
	l.close(2, "2 closed")
	l.look("lasting", api.Look{There: true, Filters: 2})
	l.look("clean", api.Look{})
}

// spoil writes over a list, and over the room behind it.
func spoil(out []api.Out) {
	out = out[:cap(out)]
	for i, o := range out {
		data := o.Data[:cap(o.Data)]
		for k := range data {
			data[k] = 77
		}
		out[i] = api.Out{Conn: 77}
	}
}

func TestWhatComesOutIsTheCallers(t *testing.T) {
	l := start(t)
	l.watch()
	l.join(0, withWill(lasting("c")), "0 CONNACK 0")
	l.send(0, asking("a", "b"), "0 SUBACK 5 [0 0]")
	data := bytesOf(t, message("a", "1"), retained("b", "2"), ping)
	for range 3 {
		out, e := l.b.Feed(0, data...)
		l.want(out, e, "0 PUBLISH a=1; 7 PUBLISH a=1; 0 PUBLISH b=2; 7 PUBLISH b=2; 0 PINGRESP")
		for i := range out {
			before := show(append(append([]api.Out(nil), out[:i]...), out[i+1:]...))
			spoil([]api.Out{out[i]})
			if after := show(append(append([]api.Out(nil), out[:i]...), out[i+1:]...)); after != before {
				t.Fatalf("the list shares memory: %q, then %q", before, after)
			}
		}
		spoil(out)
	}
	out, e := l.b.Close(0)
	l.want(out, e, "0 closed; 7 PUBLISH gone=c")
	spoil(out)
	l.send(7, asking("b"), "7 SUBACK 5 [0]; 7 PUBLISH b=2 retain")
}

func TestWhatIsHandedInStays(t *testing.T) {
	l := start(t)
	l.watch()
	l.open(0)
	stream := bytesOf(t, withWill(clean("c")), asking("a"), retained("a", "1"), ping)
	for cut := range stream {
		memory := append([]byte(nil), stream...)
		memory = append(memory, "behind"...)
		before := string(memory)
		for _, data := range [][]byte{memory[:cut:len(memory)], memory[cut:len(stream):len(memory)]} {
			if _, e := l.b.Feed(0, data...); e != api.OK || string(memory) != before {
				t.Fatalf("Feed: %d, %q", e, memory)
			}
			// What waits must not change with what was handed in.
			for i := range data {
				data[i] ^= 255
			}
			before = string(memory)
		}
		l.send(7, asking("a"), "7 SUBACK 5 [0]; 7 PUBLISH a=1 retain")
		l.close(0, "0 closed; 7 PUBLISH gone=c")
		l.open(0)
	}
}

func TestBrokersAreApart(t *testing.T) {
	a, b := start(t), start(t)
	a.join(0, lasting("c"), "0 CONNACK 0")
	a.send(0, asking("#"), "0 SUBACK 5 [0]")
	a.send(0, retained("a", "1"), "0 PUBLISH a=1")
	a.tick(1000, "")
	b.wantNotOpen(0)
	b.look("c", api.Look{})
	p := clean("c")
	p.KeepAlive = 10
	b.join(0, p, "0 CONNACK 0")
	b.send(0, asking("a"), "0 SUBACK 5 [0]")
	b.tick(14, "")
	b.send(0, message("a", "2"), "0 PUBLISH a=2")
}
