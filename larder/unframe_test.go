package larder_test

import (
	"math/rand"
	"strings"
	"testing"

	"larder/api"
	"larder/larder"
)

func checkUnframe(t *testing.T, s string) {
	t.Helper()
	want, size, found := commandAt(s)
	if !found {
		checkNoFrame(t, s)
		return
	}
	if c, n, e := larder.Unframe(s); c != want || n != size || e != api.OK {
		t.Errorf("P4: Unframe(%q) = %+v, %d, %d, want %+v, %d", s, c, n, e, want, size)
	}
}

func checkNoFrame(t *testing.T, s string) {
	t.Helper()
	if c, n, e := larder.Unframe(s); c != (api.Command{}) || n != 0 || e != api.ErrJournal {
		t.Errorf("P4: Unframe(%q) = %+v, %d, %d, want zeros and ErrJournal", s, c, n, e)
	}
}

func TestUnframeExamples(t *testing.T) {
	for _, x := range []struct {
		s []byte
		c api.Command
	}{
		{[]byte{10, 1, 1, 0, 0, 0, 2, 44, 1, 0, 0}, api.Command{Kind: api.Receive, Id: 1, Good: 2, Quantity: 300}},
		{[]byte{10, 7, 0, 0, 0, 0, 0, 255, 255, 255, 127}, api.Command{Kind: api.Adjust, Quantity: -1}},
		{[]byte{14, 4, 1, 2, 3, 4, 3, 2, 14, 0x0b, 0x0c, 0x0d, 0, 1, 2}, api.Command{Kind: api.Promise, Id: 0x04030201, Good: 3, Channel: 2, Day: 14, Quantity: 0x0d0c0b, Ticks: 0x0201}},
		{[]byte{9, 6, 1, 2, 3, 4, 0xfa, 0xfb, 0xfc, 0xfd}, api.Command{Kind: api.Release, Id: 0x04030201, Hold: 0xfdfcfbfa}},
	} {
		if c, n, e := larder.Unframe(string(x.s)); c != x.c || n != len(x.s) || e != api.OK {
			t.Errorf("P4: Unframe(%v) = %+v, %d, %d, want %+v, %d", x.s, c, n, e, x.c, len(x.s))
		}
	}
}

// TestUnframeFront lays things behind frames that do not belong to them.
func TestUnframeFront(t *testing.T) {
	for _, c := range ordinary() {
		frame := frameOf(c)
		for _, tail := range []string{"", "\x00", "x", frame, frame[:1], frame[1:], strings.Repeat("\xff", 300)} {
			if got, n, e := larder.Unframe(frame + tail); got != c || n != len(frame) || e != api.OK {
				t.Errorf("P4: Unframe(%q) = %+v, %d, %d, want %+v, %d", frame+tail, got, n, e, c, len(frame))
			}
		}
	}
}

func TestUnframeCut(t *testing.T) {
	for _, c := range ordinary() {
		frame := frameOf(c)
		for k := range len(frame) {
			checkNoFrame(t, frame[:k])
		}
	}
}

func TestUnframeNoFrame(t *testing.T) {
	for _, s := range []string{
		"",
		"\x00",
		"\x00\x00",
		"\x05\x00\x00\x00\x00\x00",                         // no such kind, and nothing more
		"\x05\x09\x00\x00\x00\x00",                         // likewise
		"\x07\x00\x00\x00\x00\x00\x01\x00",                 // kind 0
		"\x07\x09\x00\x00\x00\x00\x01\x00",                 // kind 9
		"\x07\xff\x00\x00\x00\x00\x01\x00",                 // kind 255
		"\x06\x08\x00\x00\x00\x00\x01\x00",                 // a byte too few told
		"\x08\x08\x00\x00\x00\x00\x01\x00\x00",             // a byte too many
		"\x07\x08\x00\x00\x00\x80\x01\x00",                 // Id 2^31
		"\x07\x08\xff\xff\xff\xff\x01\x00",                 // Id 2^32 - 1
		"\x07\x08\x00\x00\x00\x00\x00\x00",                 // Ticks 0
		"\x07\x08\x00\x00\x00\x00\xe9\x03",                 // Ticks 1001
		"\x09\x05\x00\x00\x00\x00\x00\x00\x00\x00",         // Hold 0
		"\x0a\x01\x00\x00\x00\x00\x04\x01\x00\x00\x00",     // Good 4
		"\x0a\x01\x00\x00\x00\x00\x00\x00\x00\x00\x00",     // Quantity 0
		"\x0a\x01\x00\x00\x00\x00\x00\x41\x42\x0f\x00",     // Quantity 1000001
		"\x0a\x01\x00\x00\x00\x00\x00\xff\xff\xff\xff",     // Quantity 2^32 - 1
		"\x0a\x01\x00\x00\x00\x00\x00\xff\xff\xff\x7f",     // an Adjust's Quantity in a Receive
		"\x0a\x07\x00\x00\x00\x00\x00\x00\x00\x00\x80",     // Adjust by 0
		"\x0a\x07\x00\x00\x00\x00\x00\x41\x42\x0f\x80",     // Adjust by 1000001
		"\x0a\x07\x00\x00\x00\x00\x00\xbf\xbd\xf0\x7f",     // Adjust by -1000001
		"\x0a\x07\x00\x00\x00\x00\x00\x01\x00\x00\x00",     // a Receive's Quantity in an Adjust
		"\x0b\x02\x00\x00\x00\x00\x00\x10\x01\x00\x00\x00", // Day 16
		"\x0b\x03\x00\x00\x00\x00\x00\x03\x01\x00\x00\x00", // Channel 3
		"\x00\x07\x08\x00\x00\x00\x00\x01\x00",             // a frame, but not at the front
		strings.Repeat("\x00", 1000),
		strings.Repeat("\xff", 1000),
	} {
		checkNoFrame(t, s)
	}
}

// TestUnframeOneByteChanged has each byte of ordinary frames be each byte, with and without something behind.
func TestUnframeOneByteChanged(t *testing.T) {
	for _, c := range ordinary() {
		frame := frameOf(c)
		for k := range len(frame) {
			for b := range 256 {
				s := frame[:k] + string([]byte{byte(b)}) + frame[k+1:]
				checkUnframe(t, s)
				checkUnframe(t, s+frame)
			}
		}
	}
}

// TestUnframeAnyBytes draws from a fixed seed; the first two bytes mostly look like a frame's.
func TestUnframeAnyBytes(t *testing.T) {
	draw := rand.New(rand.NewSource(1))
	for range 200000 {
		b := make([]byte, draw.Intn(20))
		for k := range b {
			b[k] = byte(draw.Intn(256)) & byte(draw.Intn(256)) & byte(draw.Intn(256))
		}
		if len(b) > 1 && draw.Intn(4) > 0 {
			b[0], b[1] = byte(5+draw.Intn(11)), byte(draw.Intn(10))
		}
		checkUnframe(t, string(b))
	}
}

// TestAnswersHangOnArguments asks for the same again behind other questions.
func TestAnswersHangOnArguments(t *testing.T) {
	l := ordinary()
	for _, c := range l {
		for _, other := range l {
			larder.Frame(other)
			larder.Unframe(frameOf(other) + "x")
			larder.Right(api.Command{Kind: 9})
			checkRight(t, c)
			checkUnframe(t, frameOf(c))
		}
	}
}
