package messages

import (
	"fmt"
	"reflect"
	"testing"

	"courant/api"
)

func TestOf(t *testing.T) {
	want := Message{Topic: "a", Payload: "1", QoS: 2, Retain: true}
	for _, p := range []api.Packet{
		{Kind: api.Publish, Topic: "a", Payload: "1", QoS: 2, Retain: true, Id: 7, Dup: true},
		{Kind: api.Connect, Client: "c", Will: true, KeepAlive: 3, Topic: "a", Payload: "1", QoS: 2, Retain: true},
	} {
		if got := Of(p); got != want {
			t.Errorf("Of(%+v) = %+v", p, got)
		}
	}
}

func TestTold(t *testing.T) {
	for own := range 3 {
		for asked := range 3 {
			for _, retained := range []bool{false, true} {
				m := Message{Topic: "a", Payload: "1", QoS: own, Retain: !retained}
				want := Message{Topic: "a", Payload: "1", QoS: min(own, asked), Retain: retained}
				if got := m.Told(asked, retained); got != want {
					t.Errorf("%+v: Told(%d, %v) = %+v", m, asked, retained, got)
				}
			}
		}
	}
}

func TestPacket(t *testing.T) {
	for qos, id := range []int{0, 1, 65535} {
		for _, retain := range []bool{false, true} {
			m := Message{Topic: "a", Payload: "1", QoS: qos, Retain: retain}
			want := api.Packet{Kind: api.Publish, Topic: "a", Payload: "1", QoS: qos, Retain: retain, Id: id}
			if got := m.Packet(id); !reflect.DeepEqual(got, want) {
				t.Errorf("%+v: Packet(%d) = %+v", m, id, got)
			}
		}
	}
}

// topicsOf tells what is retained, as a text.
func topicsOf(r *Retained) string {
	s := ""
	for _, m := range r.Matching("#") {
		s += m.Topic + m.Payload + " "
	}
	return s
}

func TestKeep(t *testing.T) {
	var r Retained
	for _, step := range []struct{ topic, payload, want string }{
		{"b", "", ""},
		{"b", "1", "b1 "},
		{"a", "1", "a1 b1 "},
		{"aa", "1", "a1 aa1 b1 "},
		{"b", "2", "a1 aa1 b2 "},
		{"c", "", "a1 aa1 b2 "},
		{"a", "", "aa1 b2 "},
		{"b", "", "aa1 "},
		{"aa", "", ""},
	} {
		r.Keep(Message{Topic: step.topic, Payload: step.payload})
		if got := topicsOf(&r); got != step.want {
			t.Errorf("Keep(%q, %q): %q, want %q", step.topic, step.payload, got, step.want)
		}
	}
}

func TestKeepNoMoreThanFits(t *testing.T) {
	var r Retained
	for i := range 20 {
		r.Keep(Message{Topic: fmt.Sprint(10 + i), Payload: "x"})
		if n := len(r.Matching("#")); n != min(i+1, api.MaxRetained) {
			t.Errorf("%d are retained of %d", n, i+1)
		}
	}
	r.Keep(Message{Topic: "17", Payload: "y"})
	r.Keep(Message{Topic: "18", Payload: "y"})
	if got, want := topicsOf(&r), "10x 11x 12x 13x 14x 15x 16x 17y "; got != want {
		t.Errorf("retained: %q, want %q", got, want)
	}
}

func TestMatching(t *testing.T) {
	var r Retained
	for _, topic := range []string{"$x", "b", "a/b", "a"} {
		r.Keep(Message{Topic: topic, Payload: "1", QoS: 2, Retain: true})
	}
	for filter, want := range map[string]int{"#": 3, "+": 2, "a/#": 2, "$x": 1, "none": 0, "a+": 0, "": 0} {
		if got := r.Matching(filter); len(got) != want {
			t.Errorf("Matching(%q) = %+v, want %d", filter, got, want)
		}
	}
	list := r.Matching("b")
	if len(list) != 1 || list[0] != (Message{Topic: "b", Payload: "1", QoS: 2, Retain: true}) {
		t.Fatalf("Matching(b) = %+v", list)
	}
	list[0].Payload = "other"
	if r.Matching("b")[0].Payload != "1" {
		t.Error("a list that was told is still the store's")
	}
}
