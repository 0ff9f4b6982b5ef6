// Package packets: packets as bytes and as values.
package packets

import (
	"errors"

	"courant/api"
)

// Kinds of packets, counted as they stand in a packet's first byte.
const (
	None = iota
	Connect
	Connack
	Publish
	Puback
	Pubrec
	Pubrel
	Pubcomp
	Subscribe
	Suback
	Unsubscribe
	Unsuback
	Pingreq
	Pingresp
	Disconnect
	Kinds // how many there are, None too: the size of an array by kinds
)

// What may be wrong with a packet. Encode and Decode wrap these: ask errors.Is.
var (
	ErrShort = errors.New("not a whole packet")
	ErrWrong = errors.New("no packet")
)

// fault says where a packet is at fault, around what is wrong there.
type fault struct {
	where string
	cause error
}

func (f fault) Error() string { return f.where + ": " + f.cause.Error() }

func (f fault) Unwrap() error { return f.cause }

// Bits of PUBLISH's flags.
const (
	retainFlag = 1
	qosShift   = 1
	dupFlag    = 8
)

// Bits of a CONNECT; those that are named nowhere are 0.
const (
	cleanBit     = 1 << 1
	willBit      = 1 << 2
	willQoSShift = 3
	retainBit    = 1 << 5
	zeroBits     = 1<<0 | 1<<6 | 1<<7
)

// Refused is SUBACK's code for a filter that was not taken.
const Refused = 128

const (
	kindShift = 4
	flagsMask = 15
	qosMask   = 3
	maxQoS    = 2

	protocol = "MQTT"
	level    = 4

	maxCode = 5
)

// Of a byte of a length.
const (
	lengthBits = 7
	lengthMore = 1 << lengthBits // another byte follows
)

// fixedFlags are those of every kind but PUBLISH.
func fixedFlags(kind int) int {
	switch kind {
	case Pubrel, Subscribe, Unsubscribe:
		return 2
	}
	return 0
}

// Encode makes the bytes of a packet. They are read again: a packet has bytes
// just if Decode tells that very packet of them, and so each rule of what a
// packet may be stands in Decode alone.
func Encode(p api.Packet) ([]byte, error) {
	var w writer
	w.packet(p)
	if w.full {
		return nil, fault{"length", ErrWrong}
	}
	b := append([]byte{firstByte(p)}, lengthBytes(len(w.body))...)
	b = append(b, w.body...)
	q, _, err := Decode(b)
	if err != nil {
		return nil, fault{"written", err}
	}
	if !same(p, q) {
		return nil, fault{"fields", ErrWrong}
	}
	return b, nil
}

// Decode tells the packet at the beginning of some bytes, and how many of them
// are its own.
func Decode(b []byte) (api.Packet, int, error) {
	if len(b) == 0 {
		return api.Packet{}, 0, fault{"first byte", ErrShort}
	}
	p, err := readFirst(b[0])
	if err != nil {
		return api.Packet{}, 0, fault{"first byte", err}
	}
	length, size, err := readLength(b[1:])
	if err != nil {
		return api.Packet{}, 0, fault{"length", err}
	}
	begin := 1 + size
	if len(b)-begin < length {
		return api.Packet{}, 0, fault{"body", ErrShort}
	}
	end := begin + length
	p, err = readBody(p, b[begin:end])
	if err != nil {
		return api.Packet{}, 0, fault{"body", err}
	}
	return p, end, nil
}
