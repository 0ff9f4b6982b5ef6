package courant

import (
	"fmt"
	"testing"

	"courant/api"
)

func puback(id int) api.Packet  { return api.Packet{Kind: api.Puback, Id: id} }
func pubrec(id int) api.Packet  { return api.Packet{Kind: api.Pubrec, Id: id} }
func pubrel(id int) api.Packet  { return api.Packet{Kind: api.Pubrel, Id: id} }
func pubcomp(id int) api.Packet { return api.Packet{Kind: api.Pubcomp, Id: id} }

func again(p api.Packet) api.Packet {
	p.Dup = true
	return p
}

// listen connects a lasting client on connection 0 that asks for t, and one
// that publishes on connection 1.
func (l *trial) listen(qos int) {
	l.t.Helper()
	l.join(0, lasting("c"), "0 CONNACK 0")
	l.send(0, wanting(qos, "t"), fmt.Sprintf("0 SUBACK 5 [%d]", qos))
	l.join(1, lasting("d"), "1 CONNACK 0")
}

// lookAt tells of a session with one filter.
func (l *trial) lookAt(client string, connected bool, waiting, under int) {
	l.t.Helper()
	l.look(client, api.Look{There: true, Connected: connected, Filters: 1, Waiting: waiting, Under: under})
}

// TestAtLeastOnce: each PUBLISH of QoS 1 is published, whatever its Id and Dup.
func TestAtLeastOnce(t *testing.T) {
	l := start(t)
	l.listen(0)
	for _, id := range []int{1, 255, 256, 65535} {
		p := withQoS(message("t", "1"), 1, id)
		want := fmt.Sprint("0 PUBLISH t=1; 1 PUBACK ", id)
		l.send(1, p, want)
		l.send(1, p, want)
		l.send(1, again(p), want)
		l.send(1, withQoS(message("none", ""), 1, id), fmt.Sprint("1 PUBACK ", id))
	}
}

// TestJustOnce: a PUBLISH of QoS 2 is published once, till its Id is released.
func TestJustOnce(t *testing.T) {
	l := start(t)
	l.listen(0)
	for _, id := range []int{1, 255, 256, 65535} {
		p := withQoS(message("t", "1"), 2, id)
		for range 2 {
			l.send(1, again(p), fmt.Sprint("0 PUBLISH t=1; 1 PUBREC ", id))
			l.send(1, p, fmt.Sprint("1 PUBREC ", id))
			l.send(1, again(p), fmt.Sprint("1 PUBREC ", id))
			l.send(1, pubrel(id), fmt.Sprint("1 PUBCOMP ", id))
		}
		l.send(1, p, fmt.Sprint("0 PUBLISH t=1; 1 PUBREC ", id))
		// Another message with that Id is taken for the same one, and not retained.
		l.send(1, withQoS(retained("t", "other"), 2, id), fmt.Sprint("1 PUBREC ", id))
		// What is of another QoS, or another Id, is of no matter to it.
		l.send(1, withQoS(message("t", "2"), 1, id), fmt.Sprint("0 PUBLISH t=2; 1 PUBACK ", id))
		l.send(1, message("t", "3"), "0 PUBLISH t=3")
		l.send(1, puback(id), "")
		l.send(1, pubrec(id), "")
		l.send(1, pubcomp(id), "")
		l.send(1, pubrel(2), "1 PUBCOMP 2")
		l.send(1, p, fmt.Sprint("1 PUBREC ", id))
		l.send(0, pubrel(id), fmt.Sprint("0 PUBCOMP ", id))
		l.send(1, p, fmt.Sprint("1 PUBREC ", id))
	}
	l.send(0, asking("t"), "0 SUBACK 5 [0]")
}

// TestKnownIdsAreTheSessions: they stay as long as it does, and are known to it alone.
func TestKnownIdsAreTheSessions(t *testing.T) {
	l := start(t)
	l.listen(0)
	p := withQoS(message("t", "1"), 2, 3)
	l.send(1, p, "0 PUBLISH t=1; 1 PUBREC 3")
	l.join(2, lasting("e"), "2 CONNACK 0")
	l.send(2, p, "0 PUBLISH t=1; 2 PUBREC 3")
	l.send(1, leave, "1 closed")
	l.join(3, lasting("d"), "3 CONNACK 0 present")
	l.send(3, p, "3 PUBREC 3")
	l.join(1, lasting("d"), "3 closed; 1 CONNACK 0 present")
	l.send(1, p, "1 PUBREC 3")
	l.send(1, pubrel(3), "1 PUBCOMP 3")
	l.send(2, p, "2 PUBREC 3")
	l.send(1, p, "0 PUBLISH t=1; 1 PUBREC 3")
	// Forgotten with the session.
	l.join(3, clean("d"), "1 closed; 3 CONNACK 0")
	l.send(3, p, "0 PUBLISH t=1; 3 PUBREC 3")
	l.send(3, leave, "3 closed")
	l.join(3, lasting("d"), "3 CONNACK 0")
	l.send(3, p, "0 PUBLISH t=1; 3 PUBREC 3")
}

func TestAllIdsKnown(t *testing.T) {
	l := start(t)
	l.listen(0)
	for range 2 {
		for id := 1; id <= 65535; id++ {
			l.send(1, withQoS(message("none", ""), 2, id), fmt.Sprint("1 PUBREC ", id))
		}
		l.send(1, withQoS(message("t", "again"), 2, 30000), "1 PUBREC 30000")
	}
	l.send(1, pubrel(30000), "1 PUBCOMP 30000")
	l.send(1, withQoS(message("t", "new"), 2, 30000), "0 PUBLISH t=new; 1 PUBREC 30000")
	l.send(1, withQoS(message("t", "again"), 2, 29999), "1 PUBREC 29999")
}

// TestAnswerIsLast: whoever is told, and to oneself too.
func TestAnswerIsLast(t *testing.T) {
	l := start(t)
	l.watch()
	l.join(0, clean("c"), "0 CONNACK 0")
	l.send(0, wanting(2, "t"), "0 SUBACK 5 [2]")
	l.send(0, withQoS(message("t", "1"), 1, 9), "0 PUBLISH t=1 QoS 1 Id 1; 7 PUBLISH t=1; 0 PUBACK 9")
	l.send(0, withQoS(message("t", "2"), 2, 9), "0 PUBLISH t=2 QoS 2 Id 2; 7 PUBLISH t=2; 0 PUBREC 9")
	// Ids that come in and Ids that are given have nothing to do with each other.
	l.send(0, pubrel(2), "0 PUBCOMP 2")
	l.lookAt("c", true, 0, 2)
	l.send(0, pubrec(9), "")
	l.send(0, pubcomp(9), "")
	l.lookAt("c", true, 0, 2)
}

func TestRetainedWithQoS(t *testing.T) {
	l := start(t)
	l.join(0, clean("c"), "0 CONNACK 0")
	p := withQoS(retained("t", "1"), 2, 9)
	l.send(0, p, "0 PUBREC 9")
	l.send(0, withQoS(retained("t", ""), 1, 9), "0 PUBACK 9")
	// It was published already: it is not retained again.
	l.send(0, again(p), "0 PUBREC 9")
	l.send(0, asking("t"), "0 SUBACK 5 [0]")
}

// TestRetainedWait: also there Window and Queue hold, and Retain stays as it was told.
func TestRetainedWait(t *testing.T) {
	l := start(t)
	l.join(0, lasting("c"), "0 CONNACK 0")
	for i := range 8 {
		l.send(0, withQoS(retained(fmt.Sprint(i), "x"), 1, 9), "0 PUBACK 9")
	}
	l.send(0, wanting(2, "+"), "0 SUBACK 5 [2]; 0 PUBLISH 0=x QoS 1 Id 1 retain; 0 PUBLISH 1=x QoS 1 Id 2 retain")
	l.lookAt("c", true, 2, 2)
	l.send(0, puback(2), "0 PUBLISH 2=x QoS 1 Id 3 retain")
	l.close(0, "0 closed")
	l.join(0, lasting("c"), "0 CONNACK 0 present; 0 PUBLISH 0=x QoS 1 Id 1 dup retain; 0 PUBLISH 2=x QoS 1 Id 3 dup retain")
	l.send(0, puback(1), "0 PUBLISH 3=x QoS 1 Id 4 retain")
	l.send(0, withQoS(retained("5", "y"), 1, 9), "0 PUBACK 9")
	l.send(0, puback(3), "0 PUBLISH 5=y QoS 1 Id 5")
}

func TestWillWithQoS(t *testing.T) {
	for qos := range 3 {
		for asked := range 3 {
			l := start(t)
			told := min(qos, asked)
			text := " PUBLISH gone=w" + mark(told > 0, fmt.Sprintf(" QoS %d Id 1", told))
			p := withWill(lasting("w"))
			p.QoS = qos
			l.join(0, p, "0 CONNACK 0")
			l.send(0, wanting(asked, "gone"), fmt.Sprintf("0 SUBACK 5 [%d]", asked))
			l.join(1, clean("c"), "1 CONNACK 0")
			l.send(1, wanting(asked, "#"), fmt.Sprintf("1 SUBACK 5 [%d]", asked))
			// The one that is gone is told too, when it comes back.
			l.close(0, "0 closed; 1"+text)
			l.lookAt("w", false, min(told, 1), 0)
			l.join(0, lasting("w"), "0 CONNACK 0 present"+mark(told > 0, "; 0"+text))
		}
	}
}

// TestWillOfWhoIsTakenOver waits till the session goes on, which it does in the same call.
func TestWillOfWhoIsTakenOver(t *testing.T) {
	l := start(t)
	p := withWill(lasting("c"))
	p.QoS = 2
	l.join(0, p, "0 CONNACK 0")
	l.send(0, wanting(2, "gone"), "0 SUBACK 5 [2]")
	l.send(0, withQoS(message("gone", "1"), 2, 9), "0 PUBLISH gone=1 QoS 2 Id 1; 0 PUBREC 9")
	l.join(1, p, "0 closed; 1 CONNACK 0 present; 1 PUBLISH gone=1 QoS 2 Id 1 dup; 1 PUBLISH gone=c QoS 2 Id 2")
	l.join(0, clean("c"), "1 closed; 0 CONNACK 0")
	l.look("c", api.Look{There: true, Connected: true})
}

// TestRoom: the least and the greatest Window and Queue.
func TestRoom(t *testing.T) {
	for _, c := range []struct{ window, queue int }{{1, 0}, {1, 1}, {1, 8}, {8, 0}, {8, 8}, {3, 5}} {
		l := startWith(t, c.window, c.queue)
		l.listen(1)
		for i := range 20 {
			p := withQoS(message("t", fmt.Sprint(i+1)), 2, i+1)
			l.send(1, p, mark(i < c.window, fmt.Sprintf("0 PUBLISH t=%d QoS 1 Id %d; ", i+1, i+1))+fmt.Sprint("1 PUBREC ", i+1))
			l.lookAt("c", true, min(max(0, i+1-c.window), c.queue), min(i+1, c.window))
		}
		for id := 1; id <= c.window+c.queue; id++ {
			next := id + c.window
			l.send(0, puback(id), mark(next <= c.window+c.queue, fmt.Sprintf("0 PUBLISH t=%d QoS 1 Id %d", next, next)))
		}
		l.lookAt("c", true, 0, 0)
		id := c.window + c.queue + 1
		l.send(1, withQoS(message("t", "next"), 1, 1), fmt.Sprintf("0 PUBLISH t=next QoS 1 Id %d; 1 PUBACK 1", id))
	}
}

// TestRoomIsEachSessions: one that is full keeps nothing from the others.
func TestRoomIsEachSessions(t *testing.T) {
	l := startWith(t, 1, 0)
	l.listen(1)
	l.join(2, clean("e"), "2 CONNACK 0")
	l.send(2, wanting(2, "t"), "2 SUBACK 5 [2]")
	l.send(1, withQoS(message("t", "1"), 2, 1), "0 PUBLISH t=1 QoS 1 Id 1; 2 PUBLISH t=1 QoS 2 Id 1; 1 PUBREC 1")
	l.send(0, puback(1), "")
	l.send(1, withQoS(message("t", "2"), 2, 2), "0 PUBLISH t=2 QoS 1 Id 2; 1 PUBREC 2")
	// Acknowledgements of one session do nothing to another one.
	l.send(1, pubrec(1), "")
	l.send(0, pubrec(1), "")
	l.send(2, puback(1), "")
	l.send(2, pubrec(1), "2 PUBREL 1")
	l.send(0, pubcomp(1), "")
	l.lookAt("e", true, 0, 1)
	l.send(2, pubcomp(1), "")
	l.lookAt("c", true, 0, 1)
	l.lookAt("e", true, 0, 0)
}

func TestWaitsWhileNotConnected(t *testing.T) {
	l := startWith(t, 2, 3)
	l.listen(2)
	l.send(0, leave, "0 closed")
	for i := range 5 {
		l.send(1, message("t", "lost"), "")
		l.send(1, withQoS(message("t", fmt.Sprint(i)), 2, i+1), fmt.Sprint("1 PUBREC ", i+1))
		l.lookAt("c", false, min(i+1, 3), 0)
	}
	// Who is there is told at once.
	l.send(1, wanting(2, "t"), "1 SUBACK 5 [2]")
	l.send(1, withQoS(message("t", "5"), 1, 9), "1 PUBLISH t=5 QoS 1 Id 1; 1 PUBACK 9")
	l.join(2, lasting("c"), "2 CONNACK 0 present; 2 PUBLISH t=0 QoS 2 Id 1; 2 PUBLISH t=1 QoS 2 Id 2")
	l.lookAt("c", true, 1, 2)
	l.send(2, pubrec(2), "2 PUBREL 2")
	l.lookAt("c", true, 1, 2)
	l.send(2, pubcomp(2), "2 PUBLISH t=2 QoS 2 Id 3")
	l.lookAt("c", true, 0, 2)
}

// TestSentAgain: in the order in which it went under way, ahead of what waits,
// however the session goes on.
func TestSentAgain(t *testing.T) {
	l := startWith(t, 3, 4)
	l.listen(2)
	l.send(1, withQoS(message("t", "a"), 2, 1), "0 PUBLISH t=a QoS 2 Id 1; 1 PUBREC 1")
	l.send(1, withQoS(message("t", "b"), 1, 2), "0 PUBLISH t=b QoS 1 Id 2; 1 PUBACK 2")
	l.send(1, withQoS(message("t", "c"), 2, 3), "0 PUBLISH t=c QoS 2 Id 3; 1 PUBREC 3")
	l.send(0, pubrec(3), "0 PUBREL 3")
	all := "0 CONNACK 0 present; 0 PUBLISH t=a QoS 2 Id 1 dup; 0 PUBLISH t=b QoS 1 Id 2 dup; 0 PUBREL 3"
	l.send(0, leave, "0 closed")
	l.join(0, lasting("c"), all)
	l.feed(0, "\x00", "0 closed")
	l.join(0, lasting("c"), all)
	l.join(2, lasting("c"), "0 closed; 2 CONNACK 0 present; 2 PUBLISH t=a QoS 2 Id 1 dup; 2 PUBLISH t=b QoS 1 Id 2 dup; 2 PUBREL 3")
	l.send(2, puback(2), "")
	l.close(2, "2 closed")
	l.send(1, withQoS(message("t", "d"), 1, 4), "1 PUBACK 4")
	l.send(1, withQoS(message("t", "e"), 1, 5), "1 PUBACK 5")
	l.join(0, lasting("c"), "0 CONNACK 0 present; 0 PUBLISH t=a QoS 2 Id 1 dup; 0 PUBREL 3; 0 PUBLISH t=d QoS 1 Id 4")
	l.send(0, pubrec(3), "0 PUBREL 3")
	l.send(0, pubcomp(3), "0 PUBLISH t=e QoS 1 Id 5")
	l.send(0, pubcomp(3), "")
	l.send(0, pubrec(3), "")
	l.close(0, "0 closed")
	l.join(0, lasting("c"), "0 CONNACK 0 present; 0 PUBLISH t=a QoS 2 Id 1 dup; 0 PUBLISH t=d QoS 1 Id 4 dup; 0 PUBLISH t=e QoS 1 Id 5 dup")
}

// TestForgottenWithTheSession: what waits, what is under way, and the last Id.
func TestForgottenWithTheSession(t *testing.T) {
	l := startWith(t, 1, 1)
	l.listen(1)
	for i := range 3 {
		l.send(1, withQoS(message("t", "1"), 1, 9), mark(i == 0, "0 PUBLISH t=1 QoS 1 Id 1; ")+"1 PUBACK 9")
	}
	l.lookAt("c", true, 1, 1)
	l.join(2, clean("c"), "0 closed; 2 CONNACK 0")
	l.look("c", api.Look{There: true, Connected: true})
	l.send(2, wanting(1, "t"), "2 SUBACK 5 [1]")
	l.send(1, withQoS(message("t", "2"), 1, 9), "2 PUBLISH t=2 QoS 1 Id 1; 1 PUBACK 9")
	l.close(2, "2 closed")
	l.look("c", api.Look{})
	l.join(0, lasting("c"), "0 CONNACK 0")
	l.look("c", api.Look{There: true, Connected: true})
}

// TestOtherAcknowledgements: with other Ids, or for another QoS, or too early, they do nothing.
func TestOtherAcknowledgements(t *testing.T) {
	l := startWith(t, 3, 3)
	l.listen(2)
	l.send(1, withQoS(message("t", "1"), 1, 7), "0 PUBLISH t=1 QoS 1 Id 1; 1 PUBACK 7")
	l.send(1, withQoS(message("t", "2"), 2, 7), "0 PUBLISH t=2 QoS 2 Id 2; 1 PUBREC 7")
	l.send(1, withQoS(message("t", "3"), 2, 8), "0 PUBLISH t=3 QoS 2 Id 3; 1 PUBREC 8")
	l.send(1, withQoS(message("t", "4"), 1, 7), "1 PUBACK 7")
	l.send(0, pubrec(3), "0 PUBREL 3")
	for _, p := range []api.Packet{
		puback(2), puback(3), puback(4), puback(7), puback(65535), puback(257),
		pubrec(1), pubrec(4), pubrec(7), pubrec(65535), pubrec(258),
		pubcomp(1), pubcomp(2), pubcomp(4), pubcomp(65535), pubcomp(259),
	} {
		l.send(0, p, "")
		l.lookAt("c", true, 1, 3)
	}
	l.send(0, puback(1), "0 PUBLISH t=4 QoS 1 Id 4")
	l.send(0, puback(1), "")
	l.lookAt("c", true, 0, 3)
}

// TestWhatWaitsIsToldAlready: a filter that is gone takes nothing back.
func TestWhatWaitsIsToldAlready(t *testing.T) {
	l := startWith(t, 1, 2)
	l.listen(2)
	l.send(1, withQoS(message("t", "1"), 1, 1), "0 PUBLISH t=1 QoS 1 Id 1; 1 PUBACK 1")
	l.send(1, withQoS(message("t", "2"), 2, 1), "1 PUBREC 1")
	l.send(0, leaving("t"), "0 UNSUBACK 5")
	l.send(1, withQoS(message("t", "3"), 2, 2), "1 PUBREC 2")
	l.send(0, puback(1), "0 PUBLISH t=2 QoS 2 Id 2")
	l.look("c", api.Look{There: true, Connected: true, Under: 1})
}

// TestGivenIds: they go round behind 65535, past those under way, whether
// released or not.
func TestGivenIds(t *testing.T) {
	l := startWith(t, 4, 0)
	l.listen(2)
	l.send(1, withQoS(message("t", "1"), 1, 1), "0 PUBLISH t=1 QoS 1 Id 1; 1 PUBACK 1")
	l.send(1, withQoS(message("t", "2"), 2, 1), "0 PUBLISH t=2 QoS 2 Id 2; 1 PUBREC 1")
	l.send(0, pubrec(2), "0 PUBREL 2")
	for id := 3; id <= 65535; id++ {
		if id == 10000 {
			l.close(0, "0 closed")
			l.join(0, lasting("c"), "0 CONNACK 0 present; 0 PUBLISH t=1 QoS 1 Id 1 dup; 0 PUBREL 2")
		}
		l.send(1, withQoS(message("t", "x"), 1, 1), fmt.Sprintf("0 PUBLISH t=x QoS 1 Id %d; 1 PUBACK 1", id))
		l.send(0, puback(id), "")
	}
	l.send(1, withQoS(message("t", "3"), 1, 1), "0 PUBLISH t=3 QoS 1 Id 3; 1 PUBACK 1")
	l.send(0, puback(1), "")
	l.send(1, withQoS(message("t", "4"), 1, 1), "0 PUBLISH t=4 QoS 1 Id 4; 1 PUBACK 1")
}

// TestLongMessages: what fits coming in fits going out.
func TestLongMessages(t *testing.T) {
	l := startWith(t, 8, 8)
	l.listen(2)
	for i, size := range []int{300 - 3, 300 - 5, 300 - 5} {
		p := withQoS(message("t", repeat(size)), i, 9)
		out, e := l.b.Feed(1, bytesOf(t, p)...)
		if e != api.OK || len(out) == 0 || len(out[0].Data) != 303 {
			t.Errorf("QoS %d: %q, error %d", i, show(out), e)
		}
	}
}

// TestWrongQoSPackets are cut off: Id 0, flags, lengths, QoS 3.
func TestWrongQoSPackets(t *testing.T) {
	for _, data := range []string{
		"\x40\x02\x00\x00", "\x50\x02\x00\x00", "\x62\x02\x00\x00", "\x70\x02\x00\x00",
		"\x42", "\x52", "\x60", "\x72",
		"\x40\x03\x00\x01\x00", "\x50\x01\x01", "\x62\x00", "\x70\x03\x00\x01\x00",
		"\x36", "\x3e", "\x32\x05\x00\x01t\x00\x00", "\x34\x04\x00\x01t\x00", "\x38",
	} {
		l := startWith(t, 1, 1)
		l.listen(2)
		for i := range 2 {
			l.send(1, withQoS(message("t", "1"), 2, i+1), mark(i == 0, "0 PUBLISH t=1 QoS 2 Id 1; ")+fmt.Sprint("1 PUBREC ", i+1))
		}
		l.feed(0, data, "0 closed")
		l.lookAt("c", false, 1, 1)
		l.feed(1, data, "1 closed")
		l.join(0, lasting("c"), "0 CONNACK 0 present; 0 PUBLISH t=1 QoS 2 Id 1 dup")
		l.join(1, lasting("d"), "1 CONNACK 0 present")
		l.send(1, withQoS(message("t", "1"), 2, 2), "1 PUBREC 2")
	}
}

// TestWrongCallsChangeNothing of what waits and is under way.
func TestWrongCallsChangeNothing(t *testing.T) {
	l := startWith(t, 1, 1)
	l.listen(2)
	for i := range 3 {
		l.send(1, withQoS(message("t", fmt.Sprint(i)), 1, 1), mark(i == 0, "0 PUBLISH t=0 QoS 1 Id 1; ")+"1 PUBACK 1")
	}
	ack := bytesOf(t, puback(1))
	for _, conn := range []int{-1, 2, 7, 8} {
		if out, e := l.b.Feed(conn, ack...); out != nil || e != api.ErrConn {
			t.Errorf("Feed(%d) = %v, %d", conn, out, e)
		}
	}
	l.wantNotOpen(2)
	l.lookAt("c", true, 1, 1)
	l.send(0, puback(1), "0 PUBLISH t=1 QoS 1 Id 2")
}

// TestToldIsNotSharedWithTheCaller: what is sent again is what came in, whatever
// was done with the lists.
func TestToldIsNotSharedWithTheCaller(t *testing.T) {
	l := startWith(t, 1, 1)
	l.listen(2)
	for i := range 2 {
		data := bytesOf(t, withQoS(message("t", fmt.Sprint(i)), 2, i+1))
		out, e := l.b.Feed(1, data...)
		l.want(out, e, mark(i == 0, "0 PUBLISH t=0 QoS 2 Id 1; ")+fmt.Sprint("1 PUBREC ", i+1))
		spoil(out)
		for k := range data {
			data[k] = 77
		}
	}
	l.close(0, "0 closed")
	l.open(0)
	out, e := l.b.Feed(0, bytesOf(t, lasting("c"))...)
	l.want(out, e, "0 CONNACK 0 present; 0 PUBLISH t=0 QoS 2 Id 1 dup")
	spoil(out)
	l.join(2, lasting("c"), "0 closed; 2 CONNACK 0 present; 2 PUBLISH t=0 QoS 2 Id 1 dup")
	l.send(2, pubrec(1), "2 PUBREL 1")
	l.send(2, pubcomp(1), "2 PUBLISH t=1 QoS 2 Id 2")
}

// qosConversation: both sides of both QoS in the bytes of one connection.
func qosConversation(t *testing.T) (string, string) {
	b := bytesOf(t, lasting("c"), wanting(2, "t"),
		withQoS(message("t", "1"), 2, 300), again(withQoS(message("t", "1"), 2, 300)),
		withQoS(retained("t", "2"), 1, 300), pubrec(1), withQoS(message("t", "3"), 1, 7),
		wanting(1, "+"), pubrel(300), pubcomp(1), puback(2), pubrec(1), puback(9), leave, ping)
	return string(b), "0 CONNACK 0; 0 SUBACK 5 [2]; 0 PUBLISH t=1 QoS 2 Id 1; 0 PUBREC 300; 0 PUBREC 300; " +
		"0 PUBLISH t=2 QoS 1 Id 2; 0 PUBACK 300; 0 PUBREL 1; 0 PUBACK 7; 0 SUBACK 5 [1]; 0 PUBCOMP 300; " +
		"0 PUBLISH t=3 QoS 1 Id 3; 0 PUBLISH t=2 QoS 1 Id 4 retain; 0 closed"
}

func TestQoSInPieces(t *testing.T) {
	data, want := qosConversation(t)
	for cut := range len(data) {
		for size := range len(data) - cut {
			l := start(t)
			l.open(0)
			if got := feedPieces(l, data[:cut], data[cut:cut+size], data[cut+size:]); got != want {
				t.Fatalf("cut at %d and %d: %q, want %q", cut, cut+size, got, want)
			}
			l.look("c", api.Look{There: true, Filters: 2, Under: 2})
		}
	}
	var pieces []string
	for i := range len(data) {
		pieces = append(pieces, data[i:i+1])
	}
	l := start(t)
	l.open(0)
	if got := feedPieces(l, pieces...); got != want {
		t.Fatalf("byte by byte: %q, want %q", got, want)
	}
}
