package courant

import (
	"fmt"
	"testing"

	"courant/api"
)

// raw tells what came out as numbers: "0: 32 2 0 0; 1: closed".
func raw(out []api.Out) string {
	s := ""
	for i, o := range out {
		s += mark(i > 0, "; ") + fmt.Sprint(o.Conn, ":") + mark(o.Closed, " closed")
		for _, c := range o.Data {
			s += fmt.Sprint(" ", c)
		}
	}
	return s
}

func (l *trial) wantRaw(out []api.Out, e api.Errno, want string) {
	l.t.Helper()
	if got := raw(out); got != want || e != api.OK {
		l.t.Fatalf("came out: %q, error %d; want: %q", got, e, want)
	}
}

func (l *trial) sendRaw(conn int, p api.Packet, want string) {
	l.t.Helper()
	out, e := l.b.Feed(conn, bytesOf(l.t, p)...)
	l.wantRaw(out, e, want)
}

func TestExample3(t *testing.T) {
	l := startWith(t, 1, 1)
	l.open(0)
	l.sendRaw(0, lasting("c"), "0: 32 2 0 0")
	l.sendRaw(0, wanting(1, "a/+"), "0: 144 3 0 5 1")
	l.open(1)
	l.sendRaw(1, clean("d"), "1: 32 2 0 0")
	l.sendRaw(1, withQoS(message("a/x", "hi"), 2, 9), "0: 50 9 0 3 97 47 120 0 1 104 105; 1: 80 2 0 9")
	l.sendRaw(1, withQoS(message("a/x", "ho"), 2, 10), "1: 80 2 0 10")
	l.sendRaw(1, withQoS(message("a/x", "he"), 2, 11), "1: 80 2 0 11")
	l.sendRaw(0, api.Packet{Kind: api.Puback, Id: 1}, "0: 50 9 0 3 97 47 120 0 2 104 111")
	out, e := l.b.Close(0)
	l.wantRaw(out, e, "0: closed")
	l.open(0)
	l.sendRaw(0, lasting("c"), "0: 32 2 1 0; 0: 58 9 0 3 97 47 120 0 2 104 111")
	l.sendRaw(0, api.Packet{Kind: api.Puback, Id: 2}, "")
}

func TestExample4(t *testing.T) {
	l := start(t)
	l.open(0)
	l.sendRaw(0, withWill(clean("c")), "0: 32 2 0 0")
	l.open(1)
	l.sendRaw(1, clean("d"), "1: 32 2 0 0")
	l.sendRaw(1, asking("gone"), "1: 144 3 0 5 0")
	l.open(2)
	l.sendRaw(2, clean("c"), "0: closed; 1: 48 7 0 4 103 111 110 101 99; 2: 32 2 0 0")
}

func TestExample5(t *testing.T) {
	l := start(t)
	p := clean("c")
	p.KeepAlive = 10
	l.open(0)
	l.sendRaw(0, p, "0: 32 2 0 0")
	out, e := l.b.Tick(14)
	l.wantRaw(out, e, "")
	out, e = l.b.Tick(1)
	l.wantRaw(out, e, "0: closed")
	l.open(0)
	out, e = l.b.Feed(0, 0)
	l.wantRaw(out, e, "0: closed")
}
