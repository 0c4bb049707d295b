package larder_test

import (
	"math/rand"
	"strings"
	"testing"

	"larder/api"
)

// behind is a journal of two frames, so that the number that is told is none that comes of itself.
func behind() string { return framesOf(withId(1, receive(0, 5)), withId(2, tick(9))) }

// checkTail has bytes behind a journal, and behind nothing.
func checkTail(t *testing.T, tail string, torn bool) {
	t.Helper()
	journal := behind()
	if !torn {
		checkNoJournal(t, journal+tail, 2)
		checkNoJournal(t, tail, 0)
		return
	}
	if l := mustOpen(t, journal+tail); l.Journal() != journal {
		t.Fatalf("P9: with %q behind it, a journal opens as %q", tail, l.Journal())
	}
	if l := mustOpen(t, tail); l.Journal() != "" {
		t.Fatalf("P9: Open(%q) has the journal %q", tail, l.Journal())
	}
}

// TestTornEachKind has all first bytes of frames, of each kind and with what it may have at both ends.
func TestTornEachKind(t *testing.T) {
	seen := map[int]bool{}
	for _, c := range ordinary() {
		frame := frameOf(c)
		for k := range len(frame) {
			checkTail(t, frame[:k], true)
		}
		seen[c.Kind] = true
	}
	if len(seen) != 8 {
		t.Errorf("%d kinds, want 8", len(seen))
	}
}

// TestTornFirstByte: it is one of the five lengths that there are.
func TestTornFirstByte(t *testing.T) {
	for b := range 256 {
		checkTail(t, string([]byte{byte(b)}), b == 7 || b == 9 || b == 10 || b == 11 || b == 14)
	}
}

func TestTornSecondByte(t *testing.T) {
	lengths := map[byte]byte{1: 10, 2: 11, 3: 11, 4: 14, 5: 9, 6: 9, 7: 10, 8: 7}
	for a := range 256 {
		for b := range 256 {
			length, known := lengths[byte(b)]
			checkTail(t, string([]byte{byte(a), byte(b)}), known && length == byte(a))
		}
	}
}

const (
	receiving  = "\x0a\x01\x09\x00\x00\x00"
	planning   = "\x0b\x02\x09\x00\x00\x00"
	allotting  = "\x0b\x03\x09\x00\x00\x00"
	promising  = "\x0e\x04\x09\x00\x00\x00"
	committing = "\x09\x05\x09\x00\x00\x00"
	releasing  = "\x09\x06\x09\x00\x00\x00"
	adjusting  = "\x0a\x07\x09\x00\x00\x00"
	ticking    = "\x07\x08\x09\x00\x00\x00"
)

func TestTornId(t *testing.T) {
	for _, s := range []string{receiving, planning, allotting, promising, committing, releasing, adjusting, ticking} {
		head := s[:2]
		for b := range 256 {
			last := string([]byte{byte(b)})
			checkTail(t, head+last, true)
			checkTail(t, head+"\xff"+last, true)
			checkTail(t, head+"\xff\xff"+last, true)
			checkTail(t, head+"\xff\xff\xff"+last, b < 128)
			checkTail(t, head+"\x00\x00\x00"+last, b < 128)
		}
	}
}

func TestTornPlaces(t *testing.T) {
	for b := range 256 {
		last := string([]byte{byte(b)})
		for _, s := range []string{receiving, planning, allotting, promising, adjusting} {
			checkTail(t, s+last, b < 4)
		}
		checkTail(t, planning+"\x03"+last, b < 16)
		checkTail(t, allotting+"\x03"+last, b < 3)
		checkTail(t, promising+"\x03"+last, b < 3)
		checkTail(t, promising+"\x03\x02"+last, b < 16)
		checkTail(t, promising+"\x04\x02"+last, false)
		checkTail(t, promising+"\x03\x03"+last, false)
	}
}

// heads are frames up to their Quantity, which is from 1 on.
var heads = []string{receiving + "\x00", planning + "\x00\x0f", allotting + "\x03\x02", promising + "\x00\x00\x00"}

func TestTornQuantity(t *testing.T) {
	for _, head := range heads {
		for _, x := range []struct {
			bytes string
			torn  bool
		}{
			{"", true},
			{"\x00", true},
			{"\xff", true},
			{"\x00\x00", true},
			{"\xff\xff", true},
			{"\x00\x00\x00", false}, // with 0 behind it is 0, else at least 2^24
			{"\x01\x00\x00", true},
			{"\x00\x01\x00", true},
			{"\x00\x00\x01", true},
			{"\xff\xff\x0e", true},
			{"\x3f\x42\x0f", true},
			{"\x40\x42\x0f", true}, // 1000000
			{"\x41\x42\x0f", false},
			{"\x00\x43\x0f", false},
			{"\x00\x42\x0f", true},
			{"\xff\x41\x0f", true},
			{"\xff\xff\x0f", false},
			{"\x00\x00\x10", false},
			{"\x01\x00\x80", false},
			{"\xff\xff\xff", false},
		} {
			checkTail(t, head+x.bytes, x.torn)
		}
	}
}

// TestTornWholeQuantity: only of a Promise something is still missing behind the Quantity.
func TestTornWholeQuantity(t *testing.T) {
	for _, x := range []struct {
		bytes string
		torn  bool
	}{
		{"\x01\x00\x00\x00", true},
		{"\x40\x42\x0f\x00", true},
		{"\x00\x00\x00\x00", false},
		{"\x41\x42\x0f\x00", false},
		{"\x01\x00\x00\x01", false},
		{"\x01\x00\x00\x80", false},
		{"\xff\xff\xff\xff", false},
	} {
		checkTail(t, heads[3]+x.bytes, x.torn)
		for b := range 256 {
			checkTail(t, heads[3]+x.bytes+string([]byte{byte(b)}), x.torn)
		}
	}
}

func TestTornAdjust(t *testing.T) {
	for _, x := range []struct {
		bytes string
		torn  bool
	}{
		{"", true},
		{"\x00", true},
		{"\xff", true},
		{"\x00\x00", true}, // not only 0: 65536 too
		{"\xff\xff", true},
		{"\x00\x00\x00", false}, // 0, or 2^24 up or down from it
		{"\x01\x00\x00", true},
		{"\x00\x01\x00", true},
		{"\x00\x00\x01", true},
		{"\xff\xff\xff", true},
		{"\x40\x42\x0f", true}, // 1000000
		{"\x41\x42\x0f", false},
		{"\x00\x43\x0f", false},
		{"\x00\x00\x10", false},
		{"\x00\x00\x7f", false},
		{"\x00\x00\x80", false},
		{"\xff\xff\xef", false},
		{"\xbf\xbd\xf0", false},
		{"\xff\xbc\xf0", false},
		{"\xc0\xbd\xf0", true}, // -1000000
		{"\x00\xbe\xf0", true},
		{"\x00\x00\xf1", true},
	} {
		checkTail(t, adjusting+"\x03"+x.bytes, x.torn)
	}
}

// TestTornHoldAndTicks: whatever is there of them, they can come within their bounds.
func TestTornHoldAndTicks(t *testing.T) {
	for b := range 256 {
		last := string([]byte{byte(b)})
		for _, s := range []string{committing, releasing} {
			for _, low := range []string{"", "\x00", "\xff", "\x00\x00", "\xff\xff"} {
				checkTail(t, s+low+last, true)
			}
		}
		checkTail(t, ticking+last, true)
		checkTail(t, promising+"\x03\x02\x0f\x40\x42\x0f\x00"+last, true)
	}
}

// TestTornWhole: frames of which nothing is missing, yet that are wrong, are no torn ones.
func TestTornWhole(t *testing.T) {
	for _, s := range []string{
		committing + "\x00\x00\x00\x00",
		releasing + "\x00\x00\x00\x00",
		ticking + "\x00\x00",
		ticking + "\xe9\x03",
		ticking + "\xff\xff",
		adjusting + "\x00\x00\x00\x00\x80",
		adjusting + "\x00\x41\x42\x0f\x80",
		adjusting + "\x00\xbf\xbd\xf0\x7f",
		adjusting + "\x00\x01\x00\x00\x00",
		heads[0] + "\x00\x00\x00\x00",
		heads[1] + "\x41\x42\x0f\x00",
		heads[2] + "\xff\xff\xff\x7f",
		heads[3] + "\x01\x00\x00\x00\x00\x00",
		heads[3] + "\x01\x00\x00\x00\xe9\x03",
		heads[3] + "\x00\x00\x00\x00\x01\x00",
	} {
		checkTail(t, s, false)
		checkTail(t, s+"\x07", false)
		checkTail(t, s+frameOf(withId(50, tick(1))), false)
	}
}

// TestTornMustBeLast: behind a torn frame there can be nothing more.
func TestTornMustBeLast(t *testing.T) {
	next := frameOf(withId(50, api.Command{Kind: api.Plan, Good: 3, Day: 15, Quantity: 1000000}))
	for _, c := range ordinary() {
		frame := frameOf(c)
		for k := 1; k < len(frame); k++ {
			checkOpen(t, frame[:k]+next)
			checkOpen(t, behind()+frame[:k]+next+next)
		}
	}
	checkTail(t, receiving+next, false)
	checkTail(t, heads[0]+"\x01\x00"+next, false)
	checkNoJournal(t, behind()+ticking+next, 3) // the first bytes of the next are taken for the missing ones
}

// TestTornOneByteChanged has each byte of what is there of a frame be each byte.
func TestTornOneByteChanged(t *testing.T) {
	for _, c := range ordinary() {
		frame := frameOf(c)
		for size := 1; size < len(frame); size++ {
			for b := range 256 {
				k := b * 31 % size
				tail := frame[:k] + string([]byte{byte(b)}) + frame[k+1:size]
				checkTail(t, tail, isTorn(tail))
				tail = frame[:size-1] + string([]byte{byte(b)})
				checkTail(t, tail, isTorn(tail))
			}
		}
	}
}

// TestTornAnyNumber draws what is there of numbers, near their bounds too.
func TestTornAnyNumber(t *testing.T) {
	r := rand.New(rand.NewSource(4000))
	all := append([]string{receiving, planning, allotting, promising, committing, releasing, adjusting + "\x00", ticking}, heads...)
	seen := map[bool]int{}
	for range 20000 {
		tail := all[r.Intn(len(all))]
		for range r.Intn(5) {
			near := []byte{0, 1, 0x0e, 0x0f, 0x10, 0x3f, 0x40, 0x41, 0x42, 0x43, 0x7f, 0x80, 0xbd, 0xbf, 0xc0, 0xef, 0xf0, 0xf1, 0xff, byte(r.Intn(256))}
			tail += string(near[r.Intn(len(near)):][:1])
		}
		if _, _, whole := commandAt(tail); whole {
			continue
		}
		torn := isTorn(tail)
		checkTail(t, tail, torn)
		seen[torn]++
	}
	if seen[true] < 1000 || seen[false] < 1000 {
		t.Errorf("%d torn, %d not: the draws are too tame", seen[true], seen[false])
	}
}

// TestTornAloneIsLetGo: a torn frame is no command, so that its Id is not among the last.
func TestTornAloneIsLetGo(t *testing.T) {
	torn := frameOf(withId(2, receive(0, 5)))
	d := &desk{Ledger: mustOpen(t, frameOf(withId(1, receive(0, 7)))+strings.TrimSuffix(torn, "\x00")), t: t}
	d.send(withId(2, tick(3)), api.Answer{}, true)
	d.atp(0, 0, 7)
}
