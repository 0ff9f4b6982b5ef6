package packets

import (
	"courant/api"
	"courant/topics"
)

// readFirst tells kind and flags, as the beginning of a packet.
func readFirst(first byte) (api.Packet, error) {
	kind, flags := int(first)>>kindShift, int(first)&flagsMask
	if kind == None || kind >= Kinds {
		return api.Packet{}, fault{"kind", ErrWrong}
	}
	p := api.Packet{Kind: kind}
	if kind != Publish {
		if flags != fixedFlags(kind) {
			return api.Packet{}, fault{"flags", ErrWrong}
		}
		return p, nil
	}
	p.Dup = flags&dupFlag != 0
	p.QoS = flags >> qosShift & qosMask
	p.Retain = flags&retainFlag != 0
	if p.QoS > maxQoS || p.Dup && p.QoS == 0 {
		return api.Packet{}, fault{"flags", ErrWrong}
	}
	return p, nil
}

// readLength tells the length at the beginning of b, and in how many bytes it
// stands there.
func readLength(b []byte) (length, size int, err error) {
	for i, c := range b {
		length |= int(c&^lengthMore) << (i * lengthBits)
		if c&lengthMore == 0 {
			if c == 0 && i > 0 || length > api.MaxLength {
				return 0, 0, fault{"number", ErrWrong}
			}
			return length, i + 1, nil
		}
		// The last byte is not 0: so much, at the least, is still to come. This
		// also ends the loop long before the shift grows too wide.
		if length+1<<((i+1)*lengthBits) > api.MaxLength {
			return 0, 0, fault{"number", ErrWrong}
		}
	}
	return 0, 0, fault{"number", ErrShort}
}

// readBody adds to p what stands in body, all of it.
func readBody(p api.Packet, body []byte) (api.Packet, error) {
	r := reader{rest: body}
	r.packet(&p)
	r.want(len(r.rest) == 0, "end")
	if r.err != nil {
		return api.Packet{}, r.err
	}
	return p, nil
}

// reader of a body. Its first fault stays; behind it there is nothing left to
// read, so that whoever reads on comes to an end.
type reader struct {
	rest []byte
	err  error
}

// want holds the reader to something that must be so.
func (r *reader) want(so bool, where string) {
	if so || r.err != nil {
		return
	}
	r.err = fault{where, ErrWrong}
	r.rest = nil
}

func (r *reader) packet(p *api.Packet) {
	switch p.Kind {
	case Connect:
		r.connect(p)
	case Connack:
		r.connack(p)
	case Publish:
		r.publish(p)
	case Puback, Pubrec, Pubrel, Pubcomp, Unsuback:
		p.Id = r.id()
	case Subscribe, Unsubscribe:
		r.filters(p)
	case Suback:
		r.codes(p)
	}
}

func (r *reader) connect(p *api.Packet) {
	r.want(r.text() == protocol, "protocol")
	r.want(r.octet() == level, "level")
	r.connectBits(p)
	p.KeepAlive = r.number()
	p.Client = r.text()
	r.want(len(p.Client) <= api.MaxClient && topics.IsName(p.Client), "client")
	if p.Will {
		p.Topic = r.topic()
		p.Payload = r.text()
	}
}

func (r *reader) connectBits(p *api.Packet) {
	bits := r.octet()
	p.Clean = bits&cleanBit != 0
	p.Will = bits&willBit != 0
	p.QoS = bits >> willQoSShift & qosMask
	p.Retain = bits&retainBit != 0
	r.want(bits&zeroBits == 0, "bits")
	r.want(p.QoS <= maxQoS, "QoS of the will")
	r.want(p.Will || p.QoS == 0 && !p.Retain, "bits of a will")
}

func (r *reader) connack(p *api.Packet) {
	present := r.octet()
	r.want(present <= 1, "present")
	p.Present = present == 1
	p.Code = r.octet()
	r.want(p.Code <= maxCode, "code")
}

func (r *reader) publish(p *api.Packet) {
	p.Topic = r.topic()
	if p.QoS > 0 {
		p.Id = r.id()
	}
	p.Payload = r.bytes(len(r.rest))
}

func (r *reader) filters(p *api.Packet) {
	p.Id = r.id()
	r.want(len(r.rest) > 0, "filters")
	for len(r.rest) > 0 {
		f := api.Filter{Filter: r.text()}
		r.want(topics.IsFilter(f.Filter), "filter")
		if p.Kind == Subscribe {
			f.QoS = r.octet()
			r.want(f.QoS <= maxQoS, "QoS of a filter")
		}
		p.Filters = append(p.Filters, f)
	}
}

func (r *reader) codes(p *api.Packet) {
	p.Id = r.id()
	r.want(len(r.rest) > 0, "codes")
	for len(r.rest) > 0 {
		code := r.octet()
		r.want(code <= maxQoS || code == Refused, "code")
		p.Codes = append(p.Codes, code)
	}
}

func (r *reader) id() int {
	id := r.number()
	r.want(id > 0, "id")
	return id
}

func (r *reader) topic() string {
	s := r.text()
	r.want(topics.IsTopic(s), "topic")
	return s
}

func (r *reader) text() string {
	return r.bytes(r.number())
}

func (r *reader) number() int {
	high := r.octet()
	return high<<8 | r.octet()
}

func (r *reader) octet() int {
	r.want(len(r.rest) > 0, "too few bytes")
	if r.err != nil {
		return 0
	}
	c := r.rest[0]
	r.rest = r.rest[1:]
	return int(c)
}

func (r *reader) bytes(n int) string {
	r.want(n <= len(r.rest), "too few bytes")
	if r.err != nil {
		return ""
	}
	s := string(r.rest[:n])
	r.rest = r.rest[n:]
	return s
}
