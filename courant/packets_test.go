package courant

import (
	"reflect"
	"strings"
	"testing"

	"courant/api"
)

const (
	bytes30 = "123456789012345678901234567890"
	hello   = "\x00\x04MQTT\x04" // how the body of a CONNECT begins
)

func repeat(n int) string { return strings.Repeat("x", n) }

// samples: packets and their bytes, at least one of each kind, and the edges.
var samples = []struct {
	p api.Packet
	b string
}{
	{api.Packet{Kind: api.Connect, Clean: true, KeepAlive: 60, Client: "c"}, "\x10\x0d" + hello + "\x02\x00\x3c\x00\x01c"},
	{api.Packet{Kind: api.Connect}, "\x10\x0c" + hello + "\x00\x00\x00\x00\x00"},
	{api.Packet{Kind: api.Connect, KeepAlive: 65535, Client: "ten_bytes_"}, "\x10\x16" + hello + "\x00\xff\xff\x00\x0aten_bytes_"},
	{api.Packet{Kind: api.Connect, Client: "ééééé"}, "\x10\x16" + hello + "\x00\x00\x00\x00\x0aééééé"},
	{api.Packet{Kind: api.Connect, Will: true, Topic: "w"}, "\x10\x11" + hello + "\x04\x00\x00\x00\x00\x00\x01w\x00\x00"},
	{api.Packet{Kind: api.Connect, Will: true, QoS: 1, Topic: "w", Payload: "\x00\xff"}, "\x10\x13" + hello + "\x0c\x00\x00\x00\x00\x00\x01w\x00\x02\x00\xff"},
	{api.Packet{Kind: api.Connect, Clean: true, Will: true, QoS: 2, Retain: true, KeepAlive: 256, Client: "c", Topic: "a/b", Payload: "+#"}, "\x10\x16" + hello + "\x36\x01\x00\x00\x01c\x00\x03a/b\x00\x02+#"},
	{api.Packet{Kind: api.Connect, Will: true, Topic: "w", Payload: repeat(283)}, "\x10\xac\x02" + hello + "\x04\x00\x00\x00\x00\x00\x01w\x01\x1b" + repeat(283)},
	{api.Packet{Kind: api.Connack}, "\x20\x02\x00\x00"},
	{api.Packet{Kind: api.Connack, Present: true, Code: 5}, "\x20\x02\x01\x05"},
	{api.Packet{Kind: api.Publish, QoS: 1, Id: 10, Topic: "a/b", Payload: "hi"}, "\x32\x09\x00\x03a/b\x00\x0ahi"},
	{api.Packet{Kind: api.Publish, Topic: "t"}, "\x30\x03\x00\x01t"},
	{api.Packet{Kind: api.Publish, Topic: "t", Retain: true, Payload: "\x00\xff"}, "\x31\x05\x00\x01t\x00\xff"},
	{api.Packet{Kind: api.Publish, Topic: "t", QoS: 2, Id: 65535}, "\x34\x05\x00\x01t\xff\xff"},
	{api.Packet{Kind: api.Publish, Topic: "t", QoS: 1, Dup: true, Id: 1}, "\x3a\x05\x00\x01t\x00\x01"},
	{api.Packet{Kind: api.Publish, Topic: "/", QoS: 2, Dup: true, Retain: true, Id: 256}, "\x3d\x05\x00\x01/\x01\x00"},
	{api.Packet{Kind: api.Publish, Topic: bytes30}, "\x30\x20\x00\x1e" + bytes30},
	{api.Packet{Kind: api.Publish, Topic: "t", Payload: repeat(124)}, "\x30\x7f\x00\x01t" + repeat(124)},
	{api.Packet{Kind: api.Publish, Topic: "t", Payload: repeat(125)}, "\x30\x80\x01\x00\x01t" + repeat(125)},
	{api.Packet{Kind: api.Publish, Topic: "t", Payload: repeat(252)}, "\x30\xff\x01\x00\x01t" + repeat(252)},
	{api.Packet{Kind: api.Publish, Topic: "t", Payload: repeat(253)}, "\x30\x80\x02\x00\x01t" + repeat(253)},
	{api.Packet{Kind: api.Publish, Topic: "t", Payload: repeat(297)}, "\x30\xac\x02\x00\x01t" + repeat(297)},
	{api.Packet{Kind: api.Puback, Id: 1}, "\x40\x02\x00\x01"},
	{api.Packet{Kind: api.Pubrec, Id: 65535}, "\x50\x02\xff\xff"},
	{api.Packet{Kind: api.Pubrel, Id: 256}, "\x62\x02\x01\x00"},
	{api.Packet{Kind: api.Pubcomp, Id: 255}, "\x70\x02\x00\xff"},
	{api.Packet{Kind: api.Subscribe, Id: 5, Filters: []api.Filter{{Filter: "a/+", QoS: 1}}}, "\x82\x08\x00\x05\x00\x03a/+\x01"},
	{api.Packet{Kind: api.Subscribe, Id: 5, Filters: []api.Filter{{Filter: "#", QoS: 2}, {Filter: "#"}, {Filter: bytes30, QoS: 1}}}, "\x82\x2b\x00\x05\x00\x01#\x02\x00\x01#\x00\x00\x1e" + bytes30 + "\x01"},
	{api.Packet{Kind: api.Suback, Id: 5, Codes: []int{0, 1, 2, 128}}, "\x90\x06\x00\x05\x00\x01\x02\x80"},
	{api.Packet{Kind: api.Unsubscribe, Id: 5, Filters: []api.Filter{{Filter: "a"}, {Filter: "b/#"}}}, "\xa2\x0a\x00\x05\x00\x01a\x00\x03b/#"},
	{api.Packet{Kind: api.Unsuback, Id: 5}, "\xb0\x02\x00\x05"},
	{api.Packet{Kind: api.Pingreq}, "\xc0\x00"},
	{api.Packet{Kind: api.Pingresp}, "\xd0\x00"},
	{api.Packet{Kind: api.Disconnect}, "\xe0\x00"},
}

// plain makes lists of nothing nil, so that packets may be held against each other.
func plain(p api.Packet) api.Packet {
	if len(p.Filters) == 0 {
		p.Filters = nil
	}
	if len(p.Codes) == 0 {
		p.Codes = nil
	}
	return p
}

func same(p, q api.Packet) bool { return reflect.DeepEqual(plain(p), plain(q)) }

func wantNoPacket(t *testing.T, b string, want api.Errno) {
	t.Helper()
	if p, n, e := Decode([]byte(b)); !same(p, api.Packet{}) || n != 0 || e != want {
		t.Errorf("Decode(%q) = %+v, %d, %d, want error %d", b, p, n, e, want)
	}
}

func wantNoBytes(t *testing.T, p api.Packet) {
	t.Helper()
	if b, e := Encode(p); b != nil || e != api.ErrPacket {
		t.Errorf("Encode(%+v) = %q, %d", p, b, e)
	}
}

func TestEncode(t *testing.T) {
	for _, c := range samples {
		if b, e := Encode(c.p); string(b) != c.b || e != api.OK {
			t.Errorf("Encode(%+v) = %q, %d, want %q", c.p, b, e, c.b)
		}
	}
}

func TestDecode(t *testing.T) {
	for _, c := range samples {
		for _, behind := range []string{"", "\x00", "\xff\xff", c.b} {
			if p, n, e := Decode([]byte(c.b + behind)); !same(p, c.p) || n != len(c.b) || e != api.OK {
				t.Errorf("Decode(%q) = %+v, %d, %d, want %+v", c.b+behind, p, n, e, c.p)
			}
		}
		for k := range c.b {
			wantNoPacket(t, c.b[:k], api.ErrShort)
		}
	}
}

func TestDecodeFirstByte(t *testing.T) {
	const may = "\x10\x20\x30\x31\x32\x33\x34\x35\x3a\x3b\x3c\x3d\x40\x50\x62\x70\x82\x90\xa2\xb0\xc0\xd0\xe0"
	for first := range 256 {
		want := api.ErrPacket
		if strings.IndexByte(may, byte(first)) >= 0 {
			want = api.ErrShort
		}
		b := string([]byte{byte(first)})
		wantNoPacket(t, b, want)
		wantNoPacket(t, b+"\x80", want)
		wantNoPacket(t, b+"\x01", want) // whatever the kind
		wantNoPacket(t, b+"\xac\x02", want)
		wantNoPacket(t, b+"\xad\x02", api.ErrPacket)
	}
}

func TestDecodeLengthOfOneByte(t *testing.T) {
	for c := range 256 {
		want := api.ErrShort // fewer bytes follow, or another byte of the length
		if c == 0 {
			want = api.ErrPacket // a whole PUBLISH without a topic
		}
		wantNoPacket(t, "\x30"+string([]byte{byte(c)}), want)
	}
}

func TestDecodeLengthOfTwoBytes(t *testing.T) {
	for low := 128; low < 256; low++ {
		for high := range 256 {
			want := api.ErrPacket
			if high > 0 && high < 128 && low-128+128*high <= 300 {
				want = api.ErrShort
			}
			wantNoPacket(t, "\x30"+string([]byte{byte(low), byte(high)}), want)
		}
	}
}

func TestDecodeLengthOfMoreBytes(t *testing.T) {
	for _, s := range []string{"\x80\x80\x01", "\x80\x80\x80\x01", "\xff\xff\xff\x7f", "\x80\x80\x80\x80", "\x80\x80\x80\x80\x01", "\x83\x80\x00", "\x83\x80\x80\x00", "\x83\x00", "\xff\xff\xff\xff\xff\xff\xff\xff\xff\xff\xff"} {
		wantNoPacket(t, "\x30"+s+"\x00\x01t", api.ErrPacket)
	}
}

func TestDecodeLooksAtNothingTillItIsWhole(t *testing.T) {
	for _, s := range []string{"\xc0\x01", "\x40\x05\x00\x00\x00\x00", "\x30\x03\x00\x00", "\x10\x0c\x00\x04MQXX", "\x82\x7f\xff\xff", "\x20\x02\xff"} {
		wantNoPacket(t, s, api.ErrShort)
	}
}

func TestDecodeWrongBodies(t *testing.T) {
	for _, s := range []string{
		// PUBLISH: topic, id
		"\x30\x00", "\x30\x01\x00", "\x30\x02\x00\x00", "\x30\x02\x00\x01", "\x30\x03\x00\x02a", "\x30\x03\x01\x01a", "\x30\x03\x00\x01#", "\x30\x05\x00\x03a/+", "\x30\x03\x00\x01\x00", "\x30\x03\x00\x01\x80",
		"\x30\x21\x00\x1f1" + bytes30, "\x32\x03\x00\x01t", "\x32\x04\x00\x01t\x01", "\x32\x05\x00\x01t\x00\x00", "\x34\x05\x00\x01t\x00\x00", "\x34\x06\x00\x01t\x00\x00x",
		// an id alone
		"\x40\x00", "\x40\x01\x01", "\x50\x02\x00\x00", "\x62\x02\x00\x00", "\x70\x03\x00\x01\x00", "\xb0\x02\x00\x00", "\xb0\x04\x00\x01\x00\x01",
		// nothing
		"\xc0\x01\x00", "\xd0\x01x", "\xe0\x02\x00\x01",
		// CONNACK
		"\x20\x00", "\x20\x01\x00", "\x20\x02\x02\x00", "\x20\x02\xff\x00", "\x20\x02\x00\x06", "\x20\x02\x01\x80", "\x20\x03\x00\x00\x00",
		// SUBSCRIBE
		"\x82\x00", "\x82\x02\x00\x05", "\x82\x06\x00\x00\x00\x01a\x01", "\x82\x03\x00\x05\x00", "\x82\x04\x00\x05\x00\x01", "\x82\x05\x00\x05\x00\x00\x00", "\x82\x05\x00\x05\x00\x01a", "\x82\x06\x00\x05\x00\x01a\x03", "\x82\x06\x00\x05\x00\x01a\x80", "\x82\x07\x00\x05\x00\x01a\x00\x00", "\x82\x09\x00\x05\x00\x01a\x00\x00\x01b", "\x82\x0a\x00\x05\x00\x01a\x00\x00\x01b\x03",
		"\x82\x07\x00\x05\x00\x02a+\x00", "\x82\x07\x00\x05\x00\x02#/\x00", "\x82\x06\x00\x05\x00\x01\x00\x00", "\x82\x06\x00\x05\x00\x01\xff\x00", "\x82\x24\x00\x05\x00\x1f1" + bytes30 + "\x00",
		// UNSUBSCRIBE
		"\xa2\x02\x00\x05", "\xa2\x05\x00\x00\x00\x01a", "\xa2\x06\x00\x05\x00\x01a\x00", "\xa2\x06\x00\x05\x00\x02a#", "\xa2\x04\x00\x05\x00\x00",
		// SUBACK
		"\x90\x02\x00\x05", "\x90\x03\x00\x00\x01", "\x90\x03\x00\x05\x03", "\x90\x03\x00\x05\x7f", "\x90\x03\x00\x05\x81", "\x90\x04\x00\x05\x00\xff",
	} {
		wantNoPacket(t, s, api.ErrPacket)
	}
}

func TestDecodeWrongConnects(t *testing.T) {
	for _, body := range []string{
		"", "\x00\x04MQTT", hello, hello + "\x02\x00\x3c", hello + "\x02\x00\x3c\x00",
		"\x00\x04MQTX\x04\x00\x00\x00\x00\x00", "\x00\x04mqtt\x04\x00\x00\x00\x00\x00", "\x00\x06MQIsdp\x04\x00\x00\x00\x00\x00", "\x00\x05MQTT\x04\x00\x00\x00\x00\x00",
		"\x00\x04MQTT\x03\x00\x00\x00\x00\x00", "\x00\x04MQTT\x05\x00\x00\x00\x00\x00",
		hello + "\x00\x00\x00\x00\x01", hello + "\x00\x00\x00\x00\x01\x00", hello + "\x00\x00\x00\x00\x01\xff", hello + "\x00\x00\x00\x00\x0belevenbytes", hello + "\x00\x00\x00\x00\x00x",
		hello + "\x04\x00\x00\x00\x00", hello + "\x04\x00\x00\x00\x00\x00\x01w", hello + "\x04\x00\x00\x00\x00\x00\x01w\x00", hello + "\x04\x00\x00\x00\x00\x00\x01w\x00\x02x", hello + "\x04\x00\x00\x00\x00\x00\x01w\x00\x00x",
		hello + "\x04\x00\x00\x00\x00\x00\x00\x00\x00", hello + "\x04\x00\x00\x00\x00\x00\x01+\x00\x00", hello + "\x04\x00\x00\x00\x00\x00\x01\x00\x00\x00", hello + "\x04\x00\x00\x00\x00\x00\x1f1" + bytes30 + "\x00\x00",
	} {
		wantNoPacket(t, "\x10"+string([]byte{byte(len(body))})+body, api.ErrPacket)
	}
}

func TestDecodeConnectBits(t *testing.T) {
	for bits := range 256 {
		body := hello + string([]byte{byte(bits)}) + "\x00\x00\x00\x00"
		will := bits&4 != 0
		if will {
			body += "\x00\x01w\x00\x00"
		}
		qos, retain := bits>>3&3, bits&32 != 0
		b := "\x10" + string([]byte{byte(len(body))}) + body
		if bits&0xc1 != 0 || qos == 3 || !will && (qos != 0 || retain) {
			wantNoPacket(t, b, api.ErrPacket)
			continue
		}
		want := api.Packet{Kind: api.Connect, Clean: bits&2 != 0, Will: will, QoS: qos, Retain: retain}
		if will {
			want.Topic = "w"
		}
		if p, n, e := Decode([]byte(b)); !same(p, want) || n != len(b) || e != api.OK {
			t.Errorf("Decode(%q) = %+v, %d, %d", b, p, n, e)
		}
	}
}

func TestEncodeWrongValues(t *testing.T) {
	filters := func(f ...api.Filter) []api.Filter { return f }
	for _, p := range []api.Packet{
		{}, {Kind: 15}, {Kind: 16}, {Kind: -1}, {Kind: 16 + api.Pingreq}, {Kind: 256 + api.Pingreq}, {Kind: 1<<60 + api.Pingreq}, {Kind: -1 << 63},
		{Kind: api.Puback}, {Kind: api.Puback, Id: -1}, {Kind: api.Puback, Id: 65536}, {Kind: api.Puback, Id: 65537}, {Kind: api.Unsuback, Id: 1<<32 + 1}, {Kind: api.Pubrel, Id: -65535},
		{Kind: api.Publish}, {Kind: api.Publish, Topic: "#"}, {Kind: api.Publish, Topic: "a\x00"}, {Kind: api.Publish, Topic: "\xff"}, {Kind: api.Publish, Topic: bytes30 + "1"}, {Kind: api.Publish, Topic: repeat(65537)},
		{Kind: api.Publish, Topic: "t", Dup: true}, {Kind: api.Publish, Topic: "t", Id: 1}, {Kind: api.Publish, Topic: "t", QoS: 1}, {Kind: api.Publish, Topic: "t", QoS: 2, Id: 65536}, {Kind: api.Publish, Topic: "t", QoS: 3, Id: 1}, {Kind: api.Publish, Topic: "t", QoS: 8, Id: 1}, {Kind: api.Publish, Topic: "t", QoS: 128}, {Kind: api.Publish, Topic: "t", QoS: -1, Id: 1}, {Kind: api.Publish, Topic: "t", QoS: -128},
		{Kind: api.Publish, Topic: "t", Payload: repeat(298)}, {Kind: api.Publish, Topic: "t", QoS: 1, Id: 1, Payload: repeat(296)}, {Kind: api.Publish, Topic: "t", Payload: repeat(1 << 20)},
		{Kind: api.Connect, KeepAlive: -1}, {Kind: api.Connect, KeepAlive: 65536}, {Kind: api.Connect, Client: "elevenbytes"}, {Kind: api.Connect, Client: "\x00"}, {Kind: api.Connect, Client: "\xff"}, {Kind: api.Connect, Client: repeat(65536)},
		{Kind: api.Connect, QoS: 1}, {Kind: api.Connect, Retain: true}, {Kind: api.Connect, Topic: "w"}, {Kind: api.Connect, Payload: "x"}, {Kind: api.Connect, Will: true}, {Kind: api.Connect, Will: true, Topic: "+"}, {Kind: api.Connect, Will: true, Topic: "w", QoS: 3}, {Kind: api.Connect, Will: true, Topic: "w", QoS: -1}, {Kind: api.Connect, Will: true, Topic: "w", QoS: 32}, {Kind: api.Connect, Will: true, Topic: "w", Payload: repeat(284)}, {Kind: api.Connect, Will: true, Topic: "w", Payload: repeat(65536)},
		{Kind: api.Connack, Code: 6}, {Kind: api.Connack, Code: -1}, {Kind: api.Connack, Code: 256}, {Kind: api.Connack, Code: -256},
		{Kind: api.Subscribe, Id: 1}, {Kind: api.Subscribe, Id: 1, Filters: filters()}, {Kind: api.Subscribe, Filters: filters(api.Filter{Filter: "a"})}, {Kind: api.Subscribe, Id: 1, Filters: filters(api.Filter{})}, {Kind: api.Subscribe, Id: 1, Filters: filters(api.Filter{Filter: "a", QoS: 3})}, {Kind: api.Subscribe, Id: 1, Filters: filters(api.Filter{Filter: "a", QoS: -1})}, {Kind: api.Subscribe, Id: 1, Filters: filters(api.Filter{Filter: "a", QoS: 256})}, {Kind: api.Subscribe, Id: 1, Filters: filters(api.Filter{Filter: "a"}, api.Filter{Filter: "a+"})},
		{Kind: api.Subscribe, Id: 1, Filters: make([]api.Filter, 1<<20)}, {Kind: api.Unsubscribe, Id: 1}, {Kind: api.Unsubscribe, Id: 1, Filters: filters(api.Filter{Filter: "a", QoS: 1})}, {Kind: api.Unsubscribe, Id: 1, Filters: filters(api.Filter{Filter: "#a"})},
		{Kind: api.Suback, Id: 1}, {Kind: api.Suback, Id: 1, Codes: []int{}}, {Kind: api.Suback, Codes: []int{0}}, {Kind: api.Suback, Id: 1, Codes: []int{3}}, {Kind: api.Suback, Id: 1, Codes: []int{-128}}, {Kind: api.Suback, Id: 1, Codes: []int{0, 256}}, {Kind: api.Suback, Id: 1, Codes: make([]int, 299)},
	} {
		wantNoBytes(t, p)
	}
}

func TestEncodeListsUpToTheLimit(t *testing.T) {
	long := api.Packet{Kind: api.Suback, Id: 1, Codes: make([]int, 298)}
	if b, e := Encode(long); len(b) != 303 || e != api.OK {
		t.Errorf("Encode = %d bytes, %d", len(b), e)
	}
	many := api.Packet{Kind: api.Subscribe, Id: 1}
	for range 74 {
		many.Filters = append(many.Filters, api.Filter{Filter: "a"})
	}
	if b, e := Encode(many); len(b) != 301 || e != api.OK {
		t.Errorf("Encode = %d bytes, %d", len(b), e)
	}
	many.Filters = append(many.Filters, api.Filter{Filter: "a"})
	wantNoBytes(t, many)
}

func TestEncodeListsOfNothing(t *testing.T) {
	p := api.Packet{Kind: api.Pingreq, Filters: []api.Filter{}, Codes: []int{}}
	if b, e := Encode(p); string(b) != "\xc0\x00" || e != api.OK {
		t.Errorf("Encode = %q, %d", b, e)
	}
}

// A field that a kind lacks is 0, false or empty.
func TestEncodeFieldsThatAKindLacks(t *testing.T) {
	fields := []struct {
		set func(p *api.Packet)
		of  []int
	}{
		{func(p *api.Packet) { p.Clean = true }, []int{api.Connect}},
		{func(p *api.Packet) { p.Will = true }, []int{api.Connect}},
		{func(p *api.Packet) { p.KeepAlive = 1 }, []int{api.Connect}},
		{func(p *api.Packet) { p.Client = "c" }, []int{api.Connect}},
		{func(p *api.Packet) { p.Present = true }, []int{api.Connack}},
		{func(p *api.Packet) { p.Code = 1 }, []int{api.Connack}},
		{func(p *api.Packet) { p.Dup = true }, []int{api.Publish}},
		{func(p *api.Packet) { p.QoS = 1 }, []int{api.Connect, api.Publish}},
		{func(p *api.Packet) { p.Retain = true }, []int{api.Connect, api.Publish}},
		{func(p *api.Packet) { p.Topic = "t" }, []int{api.Connect, api.Publish}},
		{func(p *api.Packet) { p.Payload = "x" }, []int{api.Connect, api.Publish}},
		{func(p *api.Packet) { p.Id = 1 }, []int{api.Publish, api.Puback, api.Pubrec, api.Pubrel, api.Pubcomp, api.Subscribe, api.Suback, api.Unsubscribe, api.Unsuback}},
		{func(p *api.Packet) { p.Filters = []api.Filter{{Filter: "a"}} }, []int{api.Subscribe, api.Unsubscribe}},
		{func(p *api.Packet) { p.Filters = make([]api.Filter, 1) }, []int{api.Subscribe, api.Unsubscribe}},
		{func(p *api.Packet) { p.Codes = make([]int, 1) }, []int{api.Suback}},
	}
	has := func(kinds []int, kind int) bool {
		for _, k := range kinds {
			if k == kind {
				return true
			}
		}
		return false
	}
	for _, c := range samples {
		for _, field := range fields {
			if p := c.p; !has(field.of, p.Kind) {
				field.set(&p)
				wantNoBytes(t, p)
			}
		}
	}
}

// holdTogether checks what is promised of any bytes at all.
func holdTogether(t *testing.T, b string) {
	t.Helper()
	p, n, e := Decode([]byte(b))
	if e != api.OK {
		if !same(p, api.Packet{}) || n != 0 || e != api.ErrShort && e != api.ErrPacket {
			t.Fatalf("Decode(%q) = %+v, %d, %d", b, p, n, e)
		}
		return
	}
	if n < 2 || n > len(b) {
		t.Fatalf("Decode(%q): %d bytes", b, n)
	}
	if again, e := Encode(p); string(again) != b[:n] || e != api.OK {
		t.Fatalf("Encode(Decode(%q)) = %q, %d", b, again, e)
	}
}

func TestDecodeWithOneByteChanged(t *testing.T) {
	for _, s := range samples {
		for i := range min(len(s.b), 40) {
			for c := range 256 {
				b := []byte(s.b)
				b[i] = byte(c)
				holdTogether(t, string(b))
			}
		}
	}
}

func FuzzDecode(f *testing.F) {
	for _, c := range samples {
		f.Add([]byte(c.b))
	}
	f.Fuzz(func(t *testing.T, b []byte) { holdTogether(t, string(b)) })
}

func TestDecodeKeepsNothing(t *testing.T) {
	for _, c := range samples {
		room := []byte(c.b + "behind")
		p, _, e := Decode(room[:len(c.b)])
		if e != api.OK || string(room) != c.b+"behind" {
			t.Fatalf("P2: Decode(%q) left %q, %d", c.b, room, e)
		}
		for i := range room {
			room[i] = 'z'
		}
		if !same(p, c.p) {
			t.Errorf("P2: %+v became %+v", c.p, p)
		}
	}
}

func TestDecodeGivesNewLists(t *testing.T) {
	for _, b := range []string{"\x82\x0e\x00\x05\x00\x01a\x01\x00\x01b\x00\x00\x01c\x02", "\x90\x05\x00\x05\x00\x01\x02"} {
		p, _, _ := Decode([]byte(b))
		q, _, _ := Decode([]byte(b))
		for i := range p.Filters[:cap(p.Filters)] {
			p.Filters[:cap(p.Filters)][i] = api.Filter{Filter: "z", QoS: 9}
		}
		for i := range p.Codes[:cap(p.Codes)] {
			p.Codes[:cap(p.Codes)][i] = 9
		}
		if again, e := Encode(q); string(again) != b || e != api.OK {
			t.Errorf("P2: lists are shared: %+v", q)
		}
	}
}

func TestEncodeLeavesListsAlone(t *testing.T) {
	filters := []api.Filter{{Filter: "a", QoS: 1}, {Filter: "b"}, {Filter: "behind", QoS: 7}}
	codes := []int{0, 128, 77}
	b, _ := Encode(api.Packet{Kind: api.Subscribe, Id: 1, Filters: filters[:2]})
	c, _ := Encode(api.Packet{Kind: api.Suback, Id: 1, Codes: codes[:2]})
	d, _ := Encode(api.Packet{Kind: api.Suback, Id: 1, Codes: codes[:2]})
	for i := range c[:cap(c)] {
		c[:cap(c)][i] = 'z'
	}
	if !reflect.DeepEqual(filters, []api.Filter{{Filter: "a", QoS: 1}, {Filter: "b"}, {Filter: "behind", QoS: 7}}) || !reflect.DeepEqual(codes, []int{0, 128, 77}) {
		t.Errorf("P2: %+v, %v", filters, codes)
	}
	filters[0].Filter, codes[0] = "z", 9
	if string(b) != "\x82\x0a\x00\x01\x00\x01a\x01\x00\x01b\x00" || string(d) != "\x90\x04\x00\x01\x00\x80" {
		t.Errorf("P2: %q, %q", b, d)
	}
}

func TestMatchesExamples(t *testing.T) {
	for _, c := range []struct {
		filter, topic string
		want          bool
	}{
		{"sport/#", "sport", true}, {"sport/+", "sport", false}, {"+", "/a", false}, {"+/+", "/a", true}, {"#", "$x", false}, {"$x/#", "$x/y", true},
		{"", "", false}, {"a+", "a+", false}, {"+", "+", false}, {"#", "", false}, {"\xff", "\xff", false}, {repeat(31), repeat(31), false}, {repeat(30), repeat(30), true}, {"#", repeat(1 << 20), false},
	} {
		if got := Matches(c.filter, c.topic); got != c.want {
			t.Errorf("Matches(%q, %q) = %v", c.filter, c.topic, got)
		}
	}
}
