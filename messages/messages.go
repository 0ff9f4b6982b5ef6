// Package messages: what is published, and what of it is retained.
package messages

import (
	"courant/api"
	"courant/packets"
)

// Message that is published, or told to a session.
type Message struct {
	Topic, Payload string
	QoS            int
	Retain         bool
}

// Of is the message of a packet: that of a PUBLISH, or the will of a CONNECT.
func Of(p api.Packet) Message {
	return Message{Topic: p.Topic, Payload: p.Payload, QoS: p.QoS, Retain: p.Retain}
}

// Told is the message as it is told to one who asked for it with that QoS.
// Retain says there whether it was retained, not whether it is to be.
func (m Message) Told(qos int, retained bool) Message {
	m.QoS = min(m.QoS, qos)
	m.Retain = retained
	return m
}

// Packet is the PUBLISH by which a message is told; id is 0 if its QoS is.
func (m Message) Packet(id int) api.Packet {
	return api.Packet{Kind: packets.Publish, QoS: m.QoS, Retain: m.Retain, Topic: m.Topic, Payload: m.Payload, Id: id}
}
