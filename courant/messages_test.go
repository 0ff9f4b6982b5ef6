package courant

import (
	"fmt"
	"math/rand"
	"strings"
	"testing"

	"courant/api"
)

// withQoS gives a PUBLISH a QoS and, but for QoS 0, an Id.
func withQoS(p api.Packet, qos, id int) api.Packet {
	p.QoS = qos
	if qos > 0 {
		p.Id = id
	}
	return p
}

// wanting: a SUBSCRIBE of filters with a QoS.
func wanting(qos int, filters ...string) api.Packet {
	p := asking(filters...)
	for i := range p.Filters {
		p.Filters[i].QoS = qos
	}
	return p
}

// TestToldByClients: byte by byte, whatever the connections and the order in which they came.
func TestToldByClients(t *testing.T) {
	clients := []string{"", "B", "a", "a0", "aa", "b", "é"}
	for turn := range 20 {
		l := start(t)
		conns := rand.New(rand.NewSource(int64(turn))).Perm(len(clients))
		want := make([]string, len(clients))
		for _, i := range rand.New(rand.NewSource(int64(turn + 100))).Perm(len(clients)) {
			client := "x" + clients[i]
			l.join(conns[i], clean(client), fmt.Sprint(conns[i], " CONNACK 0"))
			l.send(conns[i], asking("t"), fmt.Sprint(conns[i], " SUBACK 5 [0]"))
			want[i] = fmt.Sprint(conns[i], " PUBLISH t=1")
		}
		l.send(conns[3], message("t", "1"), strings.Join(want, "; "))
	}
}

func TestToldOnceToWhoAsked(t *testing.T) {
	l := start(t)
	l.join(0, clean("c"), "0 CONNACK 0")
	l.join(1, clean("d"), "1 CONNACK 0")
	l.join(2, clean("e"), "2 CONNACK 0")
	l.send(0, asking("a/+", "a/#", "a/b", "#"), "0 SUBACK 5 [0 0 0 0]")
	l.send(1, asking("a/+", "$x/#"), "1 SUBACK 5 [0 0]")
	l.send(2, message("a/b", "1"), "0 PUBLISH a/b=1; 1 PUBLISH a/b=1")
	l.send(2, message("a", ""), "0 PUBLISH a=")
	l.send(2, message("$x/y", "2"), "1 PUBLISH $x/y=2")
	l.send(2, message("$y", "3"), "")
	l.send(0, message("a/b", "own"), "0 PUBLISH a/b=own; 1 PUBLISH a/b=own")
	l.send(2, message("/", repeat(297)), "0 PUBLISH /="+repeat(297))
	l.open(3)
	l.send(1, leave, "1 closed")
	l.send(2, message("a/c", "4"), "0 PUBLISH a/c=4")
}

// TestToldWithTheLesserQoS: of the message's and of the greatest that matches.
func TestToldWithTheLesserQoS(t *testing.T) {
	for own := range 3 {
		for asked := range 3 {
			for other := range 3 {
				l := start(t)
				l.join(0, clean("c"), "0 CONNACK 0")
				l.join(1, clean("d"), "1 CONNACK 0")
				p := asking("t", "+", "u/#")
				p.Filters[0].QoS, p.Filters[1].QoS, p.Filters[2].QoS = asked, other, 2
				l.send(0, p, fmt.Sprintf("0 SUBACK 5 [%d %d 2]", asked, other))
				qos := min(own, max(asked, other))
				want := "0 PUBLISH t=1" + mark(qos > 0, fmt.Sprintf(" QoS %d Id 1", qos))
				l.send(1, withQoS(message("t", "1"), own, 9), want+[]string{"", "; 1 PUBACK 9", "; 1 PUBREC 9"}[own])
			}
		}
	}
}

func TestRetainedIsTold(t *testing.T) {
	l := start(t)
	l.join(0, clean("c"), "0 CONNACK 0")
	l.join(1, clean("d"), "1 CONNACK 0")
	l.send(0, asking("t"), "0 SUBACK 5 [0]")
	l.send(1, retained("t", "1"), "0 PUBLISH t=1")
	l.send(1, asking("t"), "1 SUBACK 5 [0]; 1 PUBLISH t=1 retain")
	// What is not to be retained leaves it as it is.
	l.send(0, message("t", "2"), "0 PUBLISH t=2; 1 PUBLISH t=2")
	l.send(0, message("t", ""), "0 PUBLISH t=; 1 PUBLISH t=")
	l.send(1, asking("t"), "1 SUBACK 5 [0]; 1 PUBLISH t=1 retain")
	l.send(1, retained("t", "3"), "0 PUBLISH t=3; 1 PUBLISH t=3")
	l.send(1, asking("t"), "1 SUBACK 5 [0]; 1 PUBLISH t=3 retain")
	l.send(1, retained("t", ""), "0 PUBLISH t=; 1 PUBLISH t=")
	l.send(1, asking("t"), "1 SUBACK 5 [0]")
	l.send(1, retained("t", ""), "0 PUBLISH t=; 1 PUBLISH t=")
	l.send(1, retained("t", "4"), "0 PUBLISH t=4; 1 PUBLISH t=4")
	// It stays, even if nobody is there.
	l.send(0, leave, "0 closed")
	l.send(1, leave, "1 closed")
	l.join(0, clean("e"), "0 CONNACK 0")
	l.send(0, asking("t"), "0 SUBACK 5 [0]; 0 PUBLISH t=4 retain")
}

// retainedAll is how all that is retained for the topics is told on connection 0.
func retainedAll(topics ...string) string {
	all := "0 SUBACK 5 [0]"
	for _, topic := range topics {
		all += "; 0 PUBLISH " + topic + " retain"
	}
	return all
}

func TestManyRetained(t *testing.T) {
	l := start(t)
	l.join(0, clean("c"), "0 CONNACK 0")
	l.join(1, clean("d"), "1 CONNACK 0")
	for _, topic := range []string{"h", "b", "d", "a", "g", "c", "f", "e"} {
		l.send(1, retained(topic, "1"), "")
	}
	l.send(0, asking("+"), retainedAll("a=1", "b=1", "c=1", "d=1", "e=1", "f=1", "g=1", "h=1"))
	l.send(1, retained("aa", "no room"), "0 PUBLISH aa=no room")
	l.send(1, retained("z", ""), "0 PUBLISH z=")
	l.send(1, retained("i", "no room"), "0 PUBLISH i=no room")
	l.send(1, retained("h", "2"), "0 PUBLISH h=2")
	l.send(0, asking("+"), retainedAll("a=1", "b=1", "c=1", "d=1", "e=1", "f=1", "g=1", "h=2"))
	l.send(1, retained("d", ""), "0 PUBLISH d=")
	l.send(0, asking("+"), retainedAll("a=1", "b=1", "c=1", "e=1", "f=1", "g=1", "h=2"))
	l.send(1, retained("aa", "3"), "0 PUBLISH aa=3")
	l.send(1, retained("d", "no room"), "0 PUBLISH d=no room")
	l.send(0, asking("+"), retainedAll("a=1", "aa=3", "b=1", "c=1", "e=1", "f=1", "g=1", "h=2"))
}

func TestRetainedByFiltersAndTopics(t *testing.T) {
	l := start(t)
	l.join(1, clean("d"), "1 CONNACK 0")
	for _, topic := range []string{"é", "a/b", "a", "B", "$x", "a0"} {
		l.send(1, retained(topic, "1"), "")
	}
	l.join(0, clean("c"), "0 CONNACK 0")
	l.send(0, asking("a/#", "none", "+", "a", "a", "$x"), "0 SUBACK 5 [0 0 0 0 0 0]"+
		"; 0 PUBLISH a=1 retain; 0 PUBLISH a/b=1 retain"+
		"; 0 PUBLISH B=1 retain; 0 PUBLISH a=1 retain; 0 PUBLISH a0=1 retain; 0 PUBLISH é=1 retain"+
		"; 0 PUBLISH a=1 retain; 0 PUBLISH a=1 retain; 0 PUBLISH $x=1 retain")
}

func TestRetainedWithTheLesserQoS(t *testing.T) {
	for own := range 3 {
		for asked := range 3 {
			l := start(t)
			l.join(0, clean("c"), "0 CONNACK 0")
			l.send(0, withQoS(retained("t", "1"), own, 9), []string{"", "0 PUBACK 9", "0 PUBREC 9"}[own])
			qos := min(own, asked)
			l.send(0, wanting(asked, "+"), fmt.Sprintf("0 SUBACK 5 [%d]; 0 PUBLISH t=1%s retain", asked, mark(qos > 0, fmt.Sprintf(" QoS %d Id 1", qos))))
		}
	}
	// The QoS that stands with the filter counts, not that of the same one behind
	// it, nor that of another one that matches.
	l := startWith(t, 8, 8)
	l.join(0, clean("c"), "0 CONNACK 0")
	l.send(0, withQoS(retained("t", "1"), 2, 9), "0 PUBREC 9")
	p := asking("t", "t", "+", "#")
	p.Filters[0].QoS, p.Filters[2].QoS = 2, 1
	l.send(0, p, "0 SUBACK 5 [2 0 1 0]; 0 PUBLISH t=1 QoS 2 Id 1 retain; 0 PUBLISH t=1 retain; "+
		"0 PUBLISH t=1 QoS 1 Id 2 retain; 0 PUBLISH t=1 retain")
}

func TestManyFilters(t *testing.T) {
	l := start(t)
	l.join(0, lasting("c"), "0 CONNACK 0")
	l.join(1, lasting("d"), "1 CONNACK 0")
	l.send(1, retained("g", "1"), "")
	l.send(0, asking("a", "b", "a", "c", "d"), "0 SUBACK 5 [0 0 0 0 0]")
	l.look("c", api.Look{There: true, Connected: true, Filters: 4})
	l.send(0, asking("e", "f", "g", "a", "+", "f"), "0 SUBACK 5 [0 0 128 0 128 0]")
	l.look("c", api.Look{There: true, Connected: true, Filters: 6})
	l.send(1, message("g", "2"), "")
	l.send(0, asking("g"), "0 SUBACK 5 [128]")
	// Each session has filters of its own, and keeps count of them when it goes on.
	l.send(1, asking("g"), "1 SUBACK 5 [0]; 1 PUBLISH g=1 retain")
	l.send(0, leave, "0 closed")
	l.join(0, lasting("c"), "0 CONNACK 0 present")
	l.send(0, asking("h", "b"), "0 SUBACK 5 [128 0]")
	l.send(0, leaving("b"), "0 UNSUBACK 5")
	l.send(0, asking("g", "b"), "0 SUBACK 5 [0 128]; 0 PUBLISH g=1 retain")
	l.look("c", api.Look{There: true, Connected: true, Filters: 6})
}

func TestSuback(t *testing.T) {
	l := start(t)
	l.join(0, clean("c"), "0 CONNACK 0")
	for _, id := range []int{1, 255, 256, 65535} {
		p := asking("a", "b", "a", "c")
		p.Id = id
		p.Filters[1].QoS, p.Filters[2].QoS = 2, 1
		l.send(0, p, fmt.Sprintf("0 SUBACK %d [0 2 1 0]", id))
		l.look("c", api.Look{There: true, Connected: true, Filters: 3})
		p = leaving("a", "none", "b", "a")
		p.Id = id
		l.send(0, p, fmt.Sprintf("0 UNSUBACK %d", id))
		l.look("c", api.Look{There: true, Connected: true, Filters: 1})
	}
	// The most filters that one packet has room for.
	many := strings.Split(strings.Repeat("a", 74), "")
	l.send(0, asking(many...), "0 SUBACK 5 ["+strings.TrimSpace(strings.Repeat("0 ", 74))+"]")
	l.look("c", api.Look{There: true, Connected: true, Filters: 2})
}

// TestSameFilter: the QoS of the last one counts.
func TestSameFilter(t *testing.T) {
	l := start(t)
	l.join(0, clean("c"), "0 CONNACK 0")
	l.join(1, clean("d"), "1 CONNACK 0")
	l.send(0, wanting(1, "t", "u"), "0 SUBACK 5 [1 1]")
	l.send(0, asking("t"), "0 SUBACK 5 [0]")
	l.send(0, leaving("u"), "0 UNSUBACK 5")
	l.send(1, withQoS(message("t", "1"), 1, 9), "0 PUBLISH t=1; 1 PUBACK 9")
	l.send(1, withQoS(message("u", "1"), 1, 9), "1 PUBACK 9")
	l.send(0, wanting(2, "t"), "0 SUBACK 5 [2]")
	l.send(1, withQoS(message("t", "2"), 2, 9), "0 PUBLISH t=2 QoS 2 Id 1; 1 PUBREC 9")
}

func TestUnsubscribe(t *testing.T) {
	l := start(t)
	l.join(0, clean("c"), "0 CONNACK 0")
	l.join(1, clean("d"), "1 CONNACK 0")
	l.send(0, asking("a", "+", "b"), "0 SUBACK 5 [0 0 0]")
	l.send(1, asking("a"), "1 SUBACK 5 [0]")
	l.send(0, leaving("#", "A", "a/"), "0 UNSUBACK 5")
	l.look("c", api.Look{There: true, Connected: true, Filters: 3})
	l.send(0, leaving("a"), "0 UNSUBACK 5")
	l.send(1, message("a", "1"), "0 PUBLISH a=1; 1 PUBLISH a=1")
	l.send(0, leaving("+", "b"), "0 UNSUBACK 5")
	l.look("c", api.Look{There: true, Connected: true})
	l.send(1, message("a", "2"), "1 PUBLISH a=2")
	l.send(1, message("b", "3"), "")
}
