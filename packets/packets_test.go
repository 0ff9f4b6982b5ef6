package packets

import (
	"errors"
	"strings"
	"testing"

	"courant/api"
)

func TestKindsAreThoseOfApi(t *testing.T) {
	want := []int{0, api.Connect, api.Connack, api.Publish, api.Puback, api.Pubrec, api.Pubrel, api.Pubcomp, api.Subscribe, api.Suback, api.Unsubscribe, api.Unsuback, api.Pingreq, api.Pingresp, api.Disconnect}
	have := []int{None, Connect, Connack, Publish, Puback, Pubrec, Pubrel, Pubcomp, Subscribe, Suback, Unsubscribe, Unsuback, Pingreq, Pingresp, Disconnect}
	if len(want) != Kinds {
		t.Errorf("Kinds is %d", Kinds)
	}
	for i := range want {
		if have[i] != want[i] {
			t.Errorf("kind %d is %d", want[i], have[i])
		}
	}
}

// wraps tells whether an error has another one inside, and is not that one.
func wraps(err, inside error) bool { return err != inside && errors.Is(err, inside) }

func TestDecodeWrapsItsErrors(t *testing.T) {
	for _, c := range []struct {
		b, where string
		inside   error
	}{
		{"", "first byte", ErrShort},
		{"\x40", "length: number", ErrShort},
		{"\x40\x02\x00", "body", ErrShort},
		{"\x00", "first byte: kind", ErrWrong},
		{"\x41", "first byte: flags", ErrWrong},
		{"\x36", "first byte: flags", ErrWrong},
		{"\x40\x80\x00", "length: number", ErrWrong},
		{"\x40\x02\x00\x00", "body: id", ErrWrong},
		{"\x40\x03\x00\x01x", "body: end", ErrWrong},
		{"\x30\x02\x00\x05", "body: too few bytes", ErrWrong},
		{"\x30\x03\x00\x01+", "body: topic", ErrWrong},
	} {
		_, _, err := Decode([]byte(c.b))
		if !wraps(err, c.inside) || err.Error() != c.where+": "+c.inside.Error() {
			t.Errorf("Decode(%q): %v", c.b, err)
		}
		if errors.Is(err, ErrShort) && errors.Is(err, ErrWrong) {
			t.Errorf("Decode(%q): short and wrong at once", c.b)
		}
	}
}

func TestEncodeWrapsItsErrors(t *testing.T) {
	for _, p := range []api.Packet{
		{},
		{Kind: Puback},
		{Kind: Pingreq, Id: 1},
		{Kind: Publish, Topic: "t", Payload: strings.Repeat("x", 298)},
	} {
		if b, err := Encode(p); b != nil || !wraps(err, ErrWrong) || errors.Is(err, ErrShort) {
			t.Errorf("Encode(%+v) = %q, %v", p, b, err)
		}
	}
}

func TestNothingIsWrongWithAPacket(t *testing.T) {
	b, err := Encode(api.Packet{Kind: Pubrel, Id: 7})
	if string(b) != "\x62\x02\x00\x07" || err != nil {
		t.Fatalf("Encode = %q, %v", b, err)
	}
	p, n, err := Decode(b)
	if p.Kind != Pubrel || p.Id != 7 || n != 4 || err != nil {
		t.Fatalf("Decode = %+v, %d, %v", p, n, err)
	}
}
