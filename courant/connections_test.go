package courant

import (
	"fmt"
	"slices"
	"strings"
	"testing"

	"courant/api"
)

// conversation: the bytes of one connection, and what comes out by it.
func conversation(t *testing.T) (string, string) {
	b := bytesOf(t,
		withWill(clean("c")), asking("t", "gone"), message("t", repeat(250)), ping,
		retained("t", "kept"), leaving("gone"), asking("t"), message("none", ""), leave, ping)
	return string(b), "0 CONNACK 0; 0 SUBACK 5 [0 0]; 0 PUBLISH t=" + repeat(250) + "; 0 PINGRESP; " +
		"0 PUBLISH t=kept; 0 UNSUBACK 5; 0 SUBACK 5 [0]; 0 PUBLISH t=kept retain; 0 closed"
}

// feedPieces hands in pieces as long as the connection is open.
func feedPieces(l *trial, pieces ...string) string {
	var all []string
	for _, piece := range pieces {
		out, e := l.b.Feed(0, []byte(piece)...)
		if e == api.ErrConn {
			break
		}
		if len(out) > 0 {
			all = append(all, show(out))
		}
	}
	return strings.Join(all, "; ")
}

func TestFeedWhole(t *testing.T) {
	data, want := conversation(t)
	l := start(t)
	l.open(0)
	l.feed(0, data, want)
	l.wantNotOpen(0)
}

func TestFeedInPieces(t *testing.T) {
	data, want := conversation(t)
	for cut := range len(data) {
		l := start(t)
		l.open(0)
		if got := feedPieces(l, data[:cut], "", data[cut:]); got != want {
			t.Fatalf("cut at %d: %q, want %q", cut, got, want)
		}
	}
	for size := range 20 {
		l := start(t)
		l.open(0)
		var pieces []string
		for rest := data; rest != ""; {
			n := min(size+1, len(rest))
			pieces, rest = append(pieces, rest[:n]), rest[n:]
		}
		if got := feedPieces(l, pieces...); got != want {
			t.Fatalf("pieces of %d: %q, want %q", size+1, got, want)
		}
	}
}

func TestFeedMuch(t *testing.T) {
	l := start(t)
	l.watch()
	l.join(0, clean("c"), "0 CONNACK 0")
	out, e := l.b.Feed(0, bytesOf(t, slices.Repeat([]api.Packet{message("a", "x")}, 5000)...)...)
	if len(out) != 5000 || e != api.OK {
		t.Fatalf("%d came out, error %d", len(out), e)
	}
}

func TestBytesWaitByConnection(t *testing.T) {
	l := start(t)
	l.join(0, clean("c"), "0 CONNACK 0")
	l.join(1, clean("d"), "1 CONNACK 0")
	l.feed(0, "\xc0", "")
	l.feed(1, "\x30\x03\x00\x01", "")
	l.feed(0, "\x00", "0 PINGRESP")
	l.feed(1, "t", "")
	l.feed(1, "\xc0\x00", "1 PINGRESP")
}

// noPackets: what is no beginning of a packet, and how many of its bytes may still be one.
var noPackets = []struct {
	data string
	good int
}{
	{"\x00", 0}, {"\xf0", 0}, {"\x36", 0}, {"\x38", 0}, {"\xc1", 0}, {"\x80", 0},
	{"\x30\x80\x00", 2}, {"\x30\x80\x80", 2}, {"\x30\xad\x02", 2},
	{"\xc0\x01x", 2}, {"\xe0\x01x", 2},
	{"\x30\x03\x00\x01+", 4}, {"\x30\x03\x00\x02t", 4}, {"\x32\x05\x00\x01t\x00\x00", 6},
	{"\x82\x02\x00\x01", 3}, {"\x82\x06\x00\x01\x00\x01t\x03", 7},
	{"\x10\x0d\x00\x04MQTT\x05\x02\x00\x00\x00\x01c", 14},
}

func TestNoPacketIsCutOff(t *testing.T) {
	for _, c := range noPackets {
		l := start(t)
		l.watch()
		for _, good := range []int{c.good, 0} {
			l.open(0)
			l.feed(0, c.data[:good], "")
			l.feed(0, c.data[good:], "0 closed")
			l.wantNotOpen(0)
			l.join(0, withWill(clean("c")), "0 CONNACK 0")
			l.feed(0, "\xc0\x00"+c.data[:good], "0 PINGRESP")
			l.feed(0, c.data[good:]+"\xc0\x00", "0 closed; 7 PUBLISH gone=c")
			l.wantNotOpen(0)
			l.look("c", api.Look{})
		}
	}
}

func TestNothingIsHandledBehindTheEnd(t *testing.T) {
	for _, end := range []string{"\xe0\x00", "\x00", "\xd0\x00"} {
		l := start(t)
		l.watch()
		l.open(0)
		data := string(bytesOf(t, clean("c"))) + end + string(bytesOf(t, retained("a", "1"), clean("c")))
		l.feed(0, data, "0 CONNACK 0; 0 closed")
		l.send(7, asking("a"), "7 SUBACK 5 [0]")
		l.look("c", api.Look{})
	}
}

func TestClose(t *testing.T) {
	l := start(t)
	l.watch()
	l.open(0)
	l.close(0, "0 closed")
	l.wantNotOpen(0)
	l.open(0)
	l.feed(0, string(bytesOf(t, withWill(clean("c"))))[:20], "")
	l.close(0, "0 closed")
	l.join(0, withWill(clean("c")), "0 CONNACK 0")
	l.close(0, "0 closed; 7 PUBLISH gone=c")
	l.wantNotOpen(0)
}

// oneOfEach: a packet of each kind, by kinds.
func oneOfEach() []api.Packet {
	list := make([]api.Packet, 15)
	for _, s := range samples {
		list[s.p.Kind] = s.p
	}
	list[api.Connect] = clean("x")
	return list[1:]
}

func TestFirstPacketIsConnect(t *testing.T) {
	l := start(t)
	l.watch()
	for _, p := range oneOfEach() {
		l.open(0)
		if p.Kind == api.Connect {
			l.send(0, p, "0 CONNACK 0")
			l.send(0, leave, "0 closed")
			continue
		}
		l.send(0, p, "0 closed")
		l.wantNotOpen(0)
	}
}

func TestWhatMayNotComeIn(t *testing.T) {
	mayNot := []int{api.Connect, api.Connack, api.Suback, api.Unsuback, api.Pingresp}
	for _, p := range oneOfEach() {
		l := start(t)
		l.watch()
		l.join(0, withWill(clean("c")), "0 CONNACK 0")
		if slices.Contains(mayNot, p.Kind) {
			l.send(0, p, "0 closed; 7 PUBLISH gone=c")
			l.look("c", api.Look{})
			l.look("x", api.Look{})
			continue
		}
		if _, e := l.b.Feed(0, bytesOf(t, p)...); e != api.OK {
			t.Fatalf("Feed of kind %d: %d", p.Kind, e)
		}
		if p.Kind == api.Disconnect {
			l.wantNotOpen(0)
		} else {
			l.send(0, ping, "0 PINGRESP")
		}
	}
}

func TestConnectWithoutClient(t *testing.T) {
	l := start(t)
	l.watch()
	for _, p := range []api.Packet{clean(""), lasting(""), withWill(clean(""))} {
		l.join(0, p, "0 CONNACK 2; 0 closed")
		l.wantNotOpen(0)
		l.look("", api.Look{})
	}
	l.open(0)
	l.feed(0, string(bytesOf(t, clean(""), clean("c"))), "0 CONNACK 2; 0 closed")
	l.look("c", api.Look{})
}

func TestConnectNames(t *testing.T) {
	l := start(t)
	for i, client := range []string{"c", "ten_bytes_", "ééééé", " ", "#", "$"} {
		l.join(i, clean(client), fmt.Sprint(i, " CONNACK 0"))
		l.look(client, api.Look{There: true, Connected: true})
	}
}

func TestManySessions(t *testing.T) {
	l := start(t)
	l.watch()
	for i := range 7 {
		l.join(0, lasting(fmt.Sprint("s", i)), "0 CONNACK 0")
		l.send(0, leave, "0 closed")
	}
	for _, p := range []api.Packet{clean("new"), lasting("new"), withWill(clean("new"))} {
		l.join(0, p, "0 CONNACK 3; 0 closed")
		l.wantNotOpen(0)
		l.look("new", api.Look{})
	}
	// Which code comes first, if both apply.
	l.join(0, clean(""), "0 CONNACK 2; 0 closed")
	// Those that are there go on.
	l.join(0, lasting("s3"), "0 CONNACK 0 present")
	l.join(1, clean("s3"), "0 closed; 1 CONNACK 0")
	l.join(2, lasting("new"), "2 CONNACK 3; 2 closed")
	l.send(1, leave, "1 closed")
	l.join(2, lasting("new"), "2 CONNACK 0")
	l.join(3, lasting("s3"), "3 CONNACK 3; 3 closed")
}

func TestSessionGoesOn(t *testing.T) {
	l := start(t)
	l.watch()
	l.join(0, lasting("c"), "0 CONNACK 0")
	l.send(0, asking("a"), "0 SUBACK 5 [0]")
	l.send(0, leave, "0 closed")
	l.look("c", api.Look{There: true, Filters: 1})
	l.send(7, message("a", "lost"), "7 PUBLISH a=lost")
	l.join(1, lasting("c"), "1 CONNACK 0 present")
	l.look("c", api.Look{There: true, Connected: true, Filters: 1})
	l.send(7, message("a", "1"), "1 PUBLISH a=1; 7 PUBLISH a=1")
	l.close(1, "1 closed")
	// Clean begins anew, and leaves nothing behind.
	l.join(2, clean("c"), "2 CONNACK 0")
	l.look("c", api.Look{There: true, Connected: true})
	l.send(7, message("a", "2"), "7 PUBLISH a=2")
	l.send(2, leave, "2 closed")
	l.join(3, lasting("c"), "3 CONNACK 0")
}

func TestTakeOver(t *testing.T) {
	for _, c := range []struct {
		old, new api.Packet
		want     string
		filters  int
	}{
		{clean("c"), clean("c"), "0 closed; 2 CONNACK 0", 0},
		{clean("c"), lasting("c"), "0 closed; 2 CONNACK 0", 0},
		{lasting("c"), clean("c"), "0 closed; 2 CONNACK 0", 0},
		{lasting("c"), lasting("c"), "0 closed; 2 CONNACK 0 present", 1},
		{withWill(clean("c")), withWill(clean("c")), "0 closed; 7 PUBLISH gone=c; 2 CONNACK 0", 0},
		{withWill(lasting("c")), lasting("c"), "0 closed; 7 PUBLISH gone=c; 2 CONNACK 0 present", 1},
		{lasting("c"), withWill(lasting("c")), "0 closed; 2 CONNACK 0 present", 1},
	} {
		l := start(t)
		l.watch()
		l.join(0, c.old, "0 CONNACK 0")
		l.send(0, asking("gone"), "0 SUBACK 5 [0]")
		l.join(1, clean("other"), "1 CONNACK 0")
		l.feed(0, "\xc0", "")
		l.join(2, c.new, c.want)
		l.wantNotOpen(0)
		l.look("c", api.Look{There: true, Connected: true, Filters: c.filters})
		l.send(1, ping, "1 PINGRESP")
		l.send(2, ping, "2 PINGRESP")
		l.send(2, leave, "2 closed")
		l.look("c", api.Look{There: !c.new.Clean, Filters: c.filters})
	}
}

// TestOnlyConnectedAreTakenOver: one whose CONNECT is not whole yet is connected for nobody.
func TestOnlyConnectedAreTakenOver(t *testing.T) {
	l := start(t)
	l.open(0)
	l.feed(0, string(bytesOf(t, clean("c"))[:14]), "")
	l.join(1, clean("c"), "1 CONNACK 0")
	l.feed(0, "c", "1 closed; 0 CONNACK 0")
	l.send(0, ping, "0 PINGRESP")
}

func TestWill(t *testing.T) {
	ends := []struct {
		how  string
		do   func(l *trial) ([]api.Out, api.Errno)
		told bool
	}{
		{"Close", func(l *trial) ([]api.Out, api.Errno) { return l.b.Close(0) }, true},
		{"no packet", func(l *trial) ([]api.Out, api.Errno) { return l.b.Feed(0, 0) }, true},
		{"CONNECT", func(l *trial) ([]api.Out, api.Errno) { return l.b.Feed(0, bytesOf(t, clean("c"))...) }, true},
		{"PINGRESP", func(l *trial) ([]api.Out, api.Errno) { return l.b.Feed(0, 0xd0, 0) }, true},
		{"Tick", func(l *trial) ([]api.Out, api.Errno) { return l.b.Tick(15) }, true},
		{"DISCONNECT", func(l *trial) ([]api.Out, api.Errno) { return l.b.Feed(0, 0xe0, 0) }, false},
	}
	for _, end := range ends {
		for _, p := range []api.Packet{clean("c"), lasting("c"), withWill(clean("c")), withWill(lasting("c"))} {
			l := start(t)
			l.watch()
			p.KeepAlive = 10
			l.join(0, p, "0 CONNACK 0")
			l.send(0, asking("gone"), "0 SUBACK 5 [0]")
			out, e := end.do(l)
			l.want(out, e, "0 closed"+mark(p.Will && end.told, "; 7 PUBLISH gone=c"))
			l.wantNotOpen(0)
			l.look("c", api.Look{There: !p.Clean, Filters: len(mark(!p.Clean, "1"))})
			// A will is told once.
			l.open(0)
			l.close(0, "0 closed")
			l.tick(100000, "")
		}
	}
}

func TestWillAsItWasAskedFor(t *testing.T) {
	l := start(t)
	l.watch()
	p := withWill(clean("c"))
	p.Payload = "\x00\xff"
	l.join(0, p, "0 CONNACK 0")
	l.close(0, "0 closed; 7 PUBLISH gone=\x00\xff")
	l.send(7, asking("gone"), "7 SUBACK 5 [0]")
	p.Retain, p.QoS = true, 2
	l.join(0, p, "0 CONNACK 0")
	l.send(7, asking("gone"), "7 SUBACK 5 [0]")
	l.close(0, "0 closed; 7 PUBLISH gone=\x00\xff")
	l.send(7, asking("gone"), "7 SUBACK 5 [0]; 7 PUBLISH gone=\x00\xff retain")
	p.Payload = ""
	l.join(0, p, "0 CONNACK 0")
	l.close(0, "0 closed; 7 PUBLISH gone=")
	l.send(7, asking("gone"), "7 SUBACK 5 [0]")
}

func TestDisconnectAndPing(t *testing.T) {
	l := start(t)
	l.join(0, clean("c"), "0 CONNACK 0")
	l.join(1, clean("d"), "1 CONNACK 0")
	l.feed(1, "\xc0\x00\xc0\x00", "1 PINGRESP; 1 PINGRESP")
	l.send(0, leave, "0 closed")
	l.wantNotOpen(0)
	l.send(1, ping, "1 PINGRESP")
}

func alive(client string, keepAlive int) api.Packet {
	p := withWill(clean(client))
	p.KeepAlive = keepAlive
	return p
}

func TestKeepAlive(t *testing.T) {
	for _, c := range []struct{ keepAlive, most int }{
		{1, 1}, {2, 2}, {3, 4}, {4, 5}, {10, 14}, {11, 16}, {60, 89}, {65534, 98300}, {65535, 98302},
	} {
		for _, before := range []int{0, 1, 77777} {
			l := start(t)
			l.watch()
			l.open(0)
			l.tick(before, "")
			l.send(0, alive("c", c.keepAlive), "0 CONNACK 0")
			l.tick(c.most, "")
			l.send(0, ping, "0 PINGRESP")
			l.tick(c.most-1, "")
			l.tick(1, "")
			l.tick(0, "")
			l.tick(1, "0 closed; 7 PUBLISH gone=c")
			l.wantNotOpen(0)
		}
	}
}

func TestNoKeepAlive(t *testing.T) {
	l := start(t)
	l.watch()
	l.join(0, alive("c", 0), "0 CONNACK 0")
	l.open(1)
	for range 50 {
		l.tick(100000, "")
	}
	l.send(0, ping, "0 PINGRESP")
	l.send(1, clean("d"), "1 CONNACK 0")
	l.send(7, ping, "7 PINGRESP")
}

func TestEachPacketKeepsAlive(t *testing.T) {
	for _, p := range oneOfEach() {
		l := start(t)
		l.join(0, alive("c", 10), "0 CONNACK 0")
		l.tick(14, "")
		if _, e := l.b.Feed(0, bytesOf(t, p)...); e != api.OK {
			t.Fatalf("Feed of kind %d: %d", p.Kind, e)
		}
		if l.b.Look("c").Connected {
			l.tick(14, "")
			l.tick(1, "0 closed")
		}
	}
}

// TestWhatDoesNotKeepAlive: parts of a packet, what is told to it, what others do.
func TestWhatDoesNotKeepAlive(t *testing.T) {
	l := start(t)
	l.watch()
	l.join(0, alive("c", 10), "0 CONNACK 0")
	l.send(0, asking("a"), "0 SUBACK 5 [0]")
	l.tick(14, "")
	l.feed(0, "", "")
	l.feed(0, "\xc0", "")
	l.send(7, message("a", "1"), "0 PUBLISH a=1; 7 PUBLISH a=1")
	l.join(1, alive("d", 10), "1 CONNACK 0")
	l.tick(1, "0 closed; 7 PUBLISH gone=c")
	l.tick(13, "")
	l.tick(1, "1 closed; 7 PUBLISH gone=d")
}

// TestSilentInOrder: by their numbers, and each one's will before the next is closed.
func TestSilentInOrder(t *testing.T) {
	l := start(t)
	l.join(6, alive("a", 2), "6 CONNACK 0")
	l.join(0, alive("b", 3), "0 CONNACK 0")
	l.join(3, alive("c", 1), "3 CONNACK 0")
	l.join(4, alive("d", 100), "4 CONNACK 0")
	for _, conn := range []int{0, 3, 4, 6} {
		l.send(conn, asking("gone"), fmt.Sprint(conn, " SUBACK 5 [0]"))
	}
	l.tick(10, "0 closed; 6 PUBLISH gone=b; 3 PUBLISH gone=b; 4 PUBLISH gone=b; "+
		"3 closed; 6 PUBLISH gone=c; 4 PUBLISH gone=c; 6 closed; 4 PUBLISH gone=a")
}
