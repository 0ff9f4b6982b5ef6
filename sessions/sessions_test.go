package sessions

import (
	"fmt"
	"reflect"
	"testing"

	"courant/api"
	"courant/messages"
)

func TestTakeAndDrop(t *testing.T) {
	s := New(api.Config{Window: 1})
	for i := range 6 {
		if !s.Take(api.Filter{Filter: fmt.Sprint(i)}) {
			t.Fatalf("filter %d was not taken", i)
		}
	}
	if s.Take(api.Filter{Filter: "6"}) {
		t.Error("a seventh filter was taken")
	}
	if !s.Take(api.Filter{Filter: "5", QoS: 1}) || s.Look().Filters != 6 {
		t.Errorf("the same filter once more: %+v", s.Look())
	}
	s.Drop("6")
	s.Drop("0")
	s.Drop("0")
	if s.Look().Filters != 5 {
		t.Errorf("behind Drop: %+v", s.Look())
	}
	if _, asked := s.Asks("0"); asked {
		t.Error("a filter that was dropped still matches")
	}
	if !s.Take(api.Filter{Filter: "6"}) {
		t.Error("no room behind Drop")
	}
}

func TestAsks(t *testing.T) {
	s := New(api.Config{Window: 1})
	for _, f := range []api.Filter{{Filter: "a/+", QoS: 1}, {Filter: "a/b", QoS: 2}, {Filter: "a/#"}, {Filter: "+"}} {
		s.Take(f)
	}
	for _, c := range []struct {
		topic string
		qos   int
		asked bool
	}{{"a/b", 2, true}, {"a/c", 1, true}, {"a", 0, true}, {"b", 0, true}, {"b/a", 0, false}, {"$x", 0, false}} {
		if qos, asked := s.Asks(c.topic); qos != c.qos || asked != c.asked {
			t.Errorf("Asks(%q) = %d, %v", c.topic, qos, asked)
		}
	}
	s.Take(api.Filter{Filter: "a/b"})
	if qos, _ := s.Asks("a/b"); qos != 1 {
		t.Errorf("Asks behind a lesser QoS: %d", qos)
	}
}

func TestTell(t *testing.T) {
	s := New(api.Config{Window: 1})
	var sent []api.Packet
	s.Tell(messages.Message{Topic: "a", Payload: "too early"})
	s.Connect(func(p api.Packet) { sent = append(sent, p) })
	s.Tell(messages.Message{Topic: "a", Payload: "1"})
	s.Tell(messages.Message{Topic: "b", Retain: true})
	s.Disconnect()
	s.Tell(messages.Message{Topic: "a", Payload: "too late"})
	want := []api.Packet{
		{Kind: api.Publish, Topic: "a", Payload: "1"},
		{Kind: api.Publish, Topic: "b", Retain: true},
	}
	if !reflect.DeepEqual(sent, want) {
		t.Errorf("sent: %+v", sent)
	}
}

func TestLook(t *testing.T) {
	s := New(api.Config{Window: 1})
	if got := s.Look(); got != (api.Look{There: true}) {
		t.Errorf("at first: %+v", got)
	}
	s.Connect(func(api.Packet) {})
	s.Take(api.Filter{Filter: "a"})
	if got := s.Look(); got != (api.Look{There: true, Connected: true, Filters: 1}) {
		t.Errorf("connected: %+v", got)
	}
	s.Disconnect()
	if got := s.Look(); got != (api.Look{There: true, Filters: 1}) {
		t.Errorf("behind Disconnect: %+v", got)
	}
}
