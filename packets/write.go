package packets

import (
	"slices"

	"courant/api"
)

// firstByte and all of writer cut numbers that are too great for their bytes:
// Encode sees by reading them again that they are others.
func firstByte(p api.Packet) byte {
	flags := fixedFlags(p.Kind)
	if p.Kind == Publish {
		flags = p.QoS<<qosShift | bit(p.Dup, dupFlag) | bit(p.Retain, retainFlag)
	}
	return byte(p.Kind<<kindShift | flags)
}

func bit(set bool, value int) int {
	if set {
		return value
	}
	return 0
}

func lengthBytes(n int) []byte {
	var b []byte
	for ; n >= lengthMore; n >>= lengthBits {
		b = append(b, byte(n)|lengthMore)
	}
	return append(b, byte(n))
}

// writer of a body. What does not fit into MaxLength is left out, and full
// says so: a body never grows beyond it, however much there is to write.
type writer struct {
	body []byte
	full bool
}

func (w *writer) packet(p api.Packet) {
	switch p.Kind {
	case Connect:
		w.connect(p)
	case Connack:
		w.octet(bit(p.Present, 1))
		w.octet(p.Code)
	case Publish:
		w.publish(p)
	case Puback, Pubrec, Pubrel, Pubcomp, Unsuback:
		w.number(p.Id)
	case Subscribe, Unsubscribe:
		w.filters(p)
	case Suback:
		w.codes(p)
	}
}

func (w *writer) connect(p api.Packet) {
	w.text(protocol)
	w.octet(level)
	w.octet(p.QoS<<willQoSShift | bit(p.Clean, cleanBit) | bit(p.Will, willBit) | bit(p.Retain, retainBit))
	w.number(p.KeepAlive)
	w.text(p.Client)
	if p.Will {
		w.text(p.Topic)
		w.text(p.Payload)
	}
}

func (w *writer) publish(p api.Packet) {
	w.text(p.Topic)
	if p.QoS > 0 {
		w.number(p.Id)
	}
	w.bytes(p.Payload)
}

func (w *writer) filters(p api.Packet) {
	w.number(p.Id)
	for _, f := range p.Filters {
		w.text(f.Filter)
		if p.Kind == Subscribe {
			w.octet(f.QoS)
		}
	}
}

func (w *writer) codes(p api.Packet) {
	w.number(p.Id)
	for _, code := range p.Codes {
		w.octet(code)
	}
}

func (w *writer) text(s string) {
	w.number(len(s))
	w.bytes(s)
}

func (w *writer) number(n int) {
	w.octet(n >> 8)
	w.octet(n)
}

func (w *writer) octet(n int) {
	if w.fits(1) {
		w.body = append(w.body, byte(n))
	}
}

func (w *writer) bytes(s string) {
	if w.fits(len(s)) {
		w.body = append(w.body, s...)
	}
}

func (w *writer) fits(n int) bool {
	if n > api.MaxLength-len(w.body) {
		w.full = true
	}
	return !w.full
}

// same tells whether two packets are the same in every field, lists by what
// is in them.
func same(p, q api.Packet) bool {
	return p.Kind == q.Kind &&
		p.Clean == q.Clean && p.Will == q.Will &&
		p.KeepAlive == q.KeepAlive && p.Client == q.Client &&
		p.Present == q.Present && p.Code == q.Code &&
		p.Dup == q.Dup && p.QoS == q.QoS && p.Retain == q.Retain &&
		p.Topic == q.Topic && p.Payload == q.Payload && p.Id == q.Id &&
		slices.Equal(p.Filters, q.Filters) && slices.Equal(p.Codes, q.Codes)
}
