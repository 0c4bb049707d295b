package larder_test

import (
	"math/rand"
	"slices"
	"strings"
	"testing"

	"larder/api"
	"larder/larder"
)

func TestOpenEmpty(t *testing.T) {
	d := &desk{Ledger: mustOpen(t, ""), t: t}
	if why := pictureOf(t, d.Ledger).unlike(picture{}); why != "" {
		t.Errorf("P9: Open of nothing: %s", why)
	}
	d.refused(commit(1), api.ErrNone)
	d.done(receive(0, 5))
	d.done(allot(0, 0, 5))
	d.promised(promise(0, 0, 0, 5, 5), 1)
	d.atp(0, 0, 0)
}

// TestOpenDocumentExample opens the journal of the document's example as bytes that are written out.
func TestOpenDocumentExample(t *testing.T) {
	d := &desk{t: t, id: 90, Ledger: mustOpen(t, ""+
		"\x0a\x01\x01\x00\x00\x00\x00\x0a\x00\x00\x00"+
		"\x0b\x02\x02\x00\x00\x00\x00\x03\x05\x00\x00\x00"+
		"\x0b\x03\x03\x00\x00\x00\x00\x01\x14\x00\x00\x00"+
		"\x0e\x04\x04\x00\x00\x00\x00\x01\x03\x08\x00\x00\x00\x64\x00"+
		"\x0e\x04\x05\x00\x00\x00\x00\x01\x00\x07\x00\x00\x00\x64\x00"+
		"\x09\x06\x06\x00\x00\x00\x01\x00\x00\x00")}
	d.atp(0, 0, 3)
	d.atp(0, 3, 8)
	d.free(0, 1, 13)
	d.states(api.Released, api.Open)
	d.promised(promise(0, 1, 5, 6, 100), 3)
	d.atp(0, 0, 2)
}

func TestOpenEachKind(t *testing.T) {
	l := []api.Command{receive(1, 100), plan(1, 2, 5), allot(1, 2, 50), promise(1, 2, 3, 7, 100), promise(1, 2, 4, 9, 50), promise(1, 2, 4, 1, 5), commit(1), release(2), adjust(1, -30), tick(5)}
	for i := range l {
		l[i].Id = i
		checkOpen(t, framesOf(l[:i+1]...))
	}
	d := &desk{Ledger: mustOpen(t, framesOf(l...)), t: t}
	d.states(api.Committed, api.Released, api.Expired)
	d.atp(1, 0, 68)
	d.atp(1, 15, 68)
	d.free(1, 2, 43)
}

// TestOpenCut has the ledger less some of its last commands, wherever its journal is cut.
func TestOpenCut(t *testing.T) {
	d := mixed(t)
	journal := d.Journal()
	frames := partsOf(t, journal)
	whole, stands := 0, larder.New()
	for k := range len(journal) + 1 {
		if whole < len(frames) && k == len(stands.Journal())+len(frames[whole]) {
			c, _, _ := commandAt(frames[whole])
			stands.Do(c)
			whole++
		}
		l := mustOpen(t, journal[:k])
		if why := pictureOf(t, l).unlike(pictureOf(t, stands)); why != "" {
			t.Fatalf("P9, P10: Open of the first %d bytes: %s", k, why)
		}
	}
	if whole != len(frames) || whole != d.id {
		t.Fatalf("%d frames of %d, want %d", whole, len(frames), d.id)
	}
}

// TestOpenGoesOn: where a journal was torn, the ledger goes on as if the torn command had never been sent.
func TestOpenGoesOn(t *testing.T) {
	first, torn := withId(1, receive(0, 10)), withId(2, receive(0, 5))
	for k := range len(frameOf(torn)) {
		d := &desk{Ledger: mustOpen(t, frameOf(first)+frameOf(torn)[:k]), t: t}
		d.atp(0, 0, 10)
		d.send(torn, api.Answer{}, true)
		d.atp(0, 0, 15)
		d.send(torn, api.Answer{}, false)
		d.send(first, api.Answer{}, false)
		checkOpen(t, d.Journal())
	}
}

// TestOpenWrongFrame has each frame of a journal be a whole one that is wrong, with what was behind it or without.
func TestOpenWrongFrame(t *testing.T) {
	frames := partsOf(t, mixed(t).Journal())
	for number := range frames {
		front, rest := strings.Join(frames[:number], ""), strings.Join(frames[number+1:], "")
		for _, wrong := range []string{
			"\x07\x08\x50\x00\x00\x00\x00\x00",             // Ticks 0
			"\x07\x08\x50\x00\x00\x00\xe9\x03",             // Ticks 1001
			"\x07\x09\x50\x00\x00\x00\x01\x00",             // kind 9
			"\x07\x00\x50\x00\x00\x00\x01\x00",             // kind 0
			"\x08\x08\x50\x00\x00\x00\x01\x00\x00",         // a byte too many
			"\x06\x08\x50\x00\x00\x00\x01",                 // a byte too few
			"\x07\x08\x50\x00\x00\x80\x01\x00",             // Id above MaxId
			"\x0a\x01\x50\x00\x00\x00\x04\x01\x00\x00\x00", // Good 4
			"\x0a\x01\x50\x00\x00\x00\x00\x41\x42\x0f\x00", // Quantity 1000001
			"\x0a\x07\x50\x00\x00\x00\x00\x00\x00\x00\x80", // Adjust by 0
			"\x09\x05\x50\x00\x00\x00\x00\x00\x00\x00",     // Hold 0
		} {
			checkNoJournal(t, front+wrong, number)
			checkNoJournal(t, front+wrong+rest, number)
		}
	}
}

// TestOpenFirstWrongIsTold: what is behind a wrong frame does not matter, be it wrong too.
func TestOpenFirstWrongIsTold(t *testing.T) {
	a, b := frameOf(withId(1, receive(0, 10))), frameOf(withId(2, tick(10)))
	none := frameOf(withId(3, commit(1)))
	for _, x := range []struct {
		journal string
		number  int
	}{
		{"x", 0}, {"x" + a, 0}, {a[1:], 0}, {a[1:] + b, 0}, {none, 0}, {none + none, 0}, {a + a, 1}, {a + a + a, 1},
		{a + none, 1}, {a + none + b, 1}, {a + none + "x", 1}, {a + "x" + none, 1}, {a + none + a, 1}, {a + none[:5] + none, 1},
		{a + b + none, 2}, {a + b + b, 2}, {a + b + a, 2}, {a + b + "x", 2}, {a + b + "\x00" + none + a, 2}, {a + b + b[:7] + b, 2},
		{a + b + b[1:], 2}, {a[:10] + b, 0}, {a + b[:7] + a, 1},
	} {
		checkNoJournal(t, x.journal, x.number)
	}
}

// refusal is a command that the ledger of a journal refuses.
type refusal struct {
	name    string
	journal string
	command api.Command
}

// refusals has each reason for which a command is refused.
func refusals(t *testing.T) []refusal {
	t.Helper()
	var l []refusal
	add := func(name string, d *desk, c api.Command, why api.Errno) {
		d.refused(c, why)
		l = append(l, refusal{name, d.Journal(), d.next(c)})
	}
	d := mixed(t)
	add("no such hold, commit", d, commit(10), api.ErrNone)
	add("no such hold, release", d, release(1<<32-1), api.ErrNone)
	add("committed, commit", d, commit(1), api.ErrNone)
	add("committed, release", d, release(1), api.ErrNone)
	add("released, commit", d, commit(2), api.ErrNone)
	add("released, release", d, release(2), api.ErrNone)
	add("expired, commit", d, commit(3), api.ErrNone)
	add("expired, release", d, release(3), api.ErrNone)
	add("share", d, promise(0, 1, 15, 1, 1), api.ErrShare)
	d.done(allot(0, 1, 1000))
	add("stock", d, promise(0, 1, 15, 1000, 1), api.ErrStock)
	for n := range 51 {
		d.promised(promise(0, 1, 15, 1, 1), 10+n)
	}
	add("many", d, promise(0, 1, 15, 1, 1), api.ErrMany)
	for _, x := range []struct {
		name         string
		full, beyond api.Command
		why          api.Errno
	}{
		{"on hand, receive", receive(0, 1000000), receive(0, 1), api.ErrOver},
		{"on hand, adjust", receive(0, 1000000), adjust(0, 1), api.ErrOver},
		{"on hand, adjust down", adjust(0, -1000000), adjust(0, -1), api.ErrOver},
		{"planned", plan(3, 15, 1000000), plan(3, 15, 1), api.ErrOver},
		{"share, allot", allot(3, 2, 1000000), allot(3, 2, 1), api.ErrOver},
		{"time", tick(1000), tick(1), api.ErrTime},
	} {
		d := open(t)
		d.times(1000, x.full)
		add(x.name, d, x.beyond, x.why)
	}
	return l
}

func TestOpenNotAccepted(t *testing.T) {
	for _, x := range refusals(t) {
		number := len(partsOf(t, x.journal))
		frame := frameOf(x.command)
		checkNoJournal(t, x.journal+frame, number)
		checkNoJournal(t, x.journal+frame+frameOf(withId(900000, receive(2, 1))), number)
		for k := range len(frame) { // where it is torn it does not matter that it would be refused
			if l := mustOpen(t, x.journal+frame[:k]); l.Journal() != x.journal {
				t.Fatalf("P9: %s: with %q behind it a journal opens as another", x.name, frame[:k])
			}
		}
	}
}

// TestOpenAgain: a command of the last eight that stands there again is wrong, the ninth last is not.
func TestOpenAgain(t *testing.T) {
	var l []api.Command
	for i := range 12 {
		l = append(l, withId(i, receive(i%4, 1+i)))
	}
	journal := framesOf(l...)
	for i, c := range l {
		other := withId(c.Id, tick(7))
		if i >= 4 {
			checkNoJournal(t, journal+frameOf(c), 12)
			checkNoJournal(t, journal+frameOf(other), 12)
			checkNoJournal(t, journal+frameOf(c)+frameOf(withId(99, tick(1))), 12)
		} else {
			checkOpen(t, journal+frameOf(c))
			checkOpen(t, journal+frameOf(other))
			checkNoJournal(t, journal+frameOf(c)+frameOf(c), 13)
			checkNoJournal(t, journal+frameOf(c)+frameOf(other), 13)
		}
		for k := range len(frameOf(c)) { // torn it is let go
			checkOpen(t, journal+frameOf(c)[:k])
		}
	}
}

// TestOpenAgainEachKind: of each kind a command that stands there twice, one behind the other or with others between.
func TestOpenAgainEachKind(t *testing.T) {
	l := []api.Command{receive(1, 100), plan(1, 2, 5), allot(1, 2, 50), promise(1, 2, 3, 7, 100), commit(1), adjust(1, -3), tick(5), promise(1, 2, 4, 9, 50), release(2)}
	for i := range l {
		l[i].Id = 10 * i // 0 is an Id too
		for k := range i + 1 {
			journal := framesOf(l[:i+1]...) + frameOf(l[k])
			if i-k < 8 {
				checkNoJournal(t, journal, i+1)
			} else {
				checkOpen(t, journal)
			}
		}
	}
}

// TestOpenKnowsTheLast: behind Open the last eight are answered as then, and the ninth last is decided anew.
func TestOpenKnowsTheLast(t *testing.T) {
	d := open(t)
	d.done(receive(0, 100))
	d.done(allot(0, 0, 100))
	var l []api.Command
	for n := range 9 {
		l = append(l, d.promised(promise(0, 0, n, 2+n, 30), n+1))
	}
	o := &desk{Ledger: mustOpen(t, d.Journal()), t: t, id: d.id}
	for n := 8; n >= 1; n-- {
		o.send(l[n], api.Answer{Hold: n + 1}, false)
		other := l[n]
		other.Quantity++
		o.send(other, api.Answer{Err: api.ErrArg}, false)
	}
	o.send(l[0], api.Answer{Hold: 10}, true)
	o.send(l[1], api.Answer{Hold: 11}, true) // the ninth last by now
	o.send(l[3], api.Answer{Hold: 4}, false)
}

// TestOpenAnswersAsTheOther sends to a ledger and to one that was opened of its journal the same.
func TestOpenAnswersAsTheOther(t *testing.T) {
	for _, k := range tempers {
		for seed := range int64(k.runs) {
			r := rand.New(rand.NewSource(1000 + seed))
			l := larder.New()
			var past []api.Command
			k.send(r, &past, l)
			o := mustOpen(t, l.Journal())
			next := slices.Clone(past[len(past)-30:]) // the last ones again, so that all of the eight are asked for
			slices.Reverse(next)
			for range 70 {
				next = append(next, k.draw(r, past))
			}
			for _, c := range next {
				if a, b := l.Do(c), o.Do(c); a != b {
					t.Fatalf("P10: %s, seed %d: Do(%+v) = %+v behind Open, want %+v", k.name, seed, c, b, a)
				}
				if why := pictureOf(t, o).unlike(pictureOf(t, l)); why != "" {
					t.Fatalf("P10: %s, seed %d: behind Open and Do(%+v): %s", k.name, seed, c, why)
				}
			}
		}
	}
}

// send does what a run draws, ahead of which stands what comes first.
func (k temper) send(r *rand.Rand, past *[]api.Command, l *larder.Ledger) {
	for i, c := range k.first {
		for n := range 995 {
			l.Do(withId(1000*i+n, c))
		}
	}
	for range k.steps {
		c := k.draw(r, *past)
		l.Do(c)
		*past = append(*past, c)
	}
}

// TestOpenCutAnywhere cuts the journals of drawn commands.
func TestOpenCutAnywhere(t *testing.T) {
	for _, k := range tempers[:4] {
		r := rand.New(rand.NewSource(2000))
		l := larder.New()
		var past []api.Command
		k.send(r, &past, l)
		journal := l.Journal()
		for range 150 {
			cut := journal[:r.Intn(len(journal)+1)]
			o := checkOpen(t, cut)
			if o == nil {
				t.Fatalf("P10: %s: a journal that was cut does not open: %q", k.name, cut)
			}
			if !strings.HasPrefix(cut, o.Journal()) || len(cut)-len(o.Journal()) > 14 {
				t.Fatalf("P9: %s: Open(%q) has the journal %q", k.name, cut, o.Journal())
			}
		}
	}
}

// TestOpenAnyBytes draws bytes, and journals in which something was changed, left out, put in or moved.
func TestOpenAnyBytes(t *testing.T) {
	r := rand.New(rand.NewSource(3000))
	frames := partsOf(t, mixed(t).Journal())
	rights, wrongs := 0, 0
	for range 6000 {
		if checkOpen(t, spoilt(r, frames)) != nil {
			rights++
		} else {
			wrongs++
		}
	}
	if rights < 500 || wrongs < 500 {
		t.Errorf("%d journals, and %d that are none: the draws are too tame", rights, wrongs)
	}
	for range 20000 {
		b := make([]byte, r.Intn(30))
		for k := range b {
			b[k] = byte(r.Intn(256)) & byte(r.Intn(256)) & byte(r.Intn(256))
		}
		checkOpen(t, string(b))
	}
}

// spoilt mostly draws what is near the end, since what is wrong ahead of it hides the rest.
func spoilt(r *rand.Rand, frames []string) string {
	frames = slices.Clone(frames[:r.Intn(len(frames)+1)])
	if len(frames) > 1 && r.Intn(3) == 0 {
		i, k := r.Intn(len(frames)), r.Intn(len(frames))
		switch r.Intn(3) {
		case 0:
			frames[i], frames[k] = frames[k], frames[i]
		case 1:
			frames = append(frames, frames[i])
		case 2:
			frames = slices.Delete(frames, i, i+1)
		}
	}
	b := []byte(strings.Join(frames, ""))
	for range r.Intn(3) {
		if len(b) == 0 {
			break
		}
		k := len(b) - 1 - r.Intn(min(len(b), 20))
		switch r.Intn(4) {
		case 0:
			b[k] = byte(r.Intn(256)) >> r.Intn(8)
		case 1:
			b = slices.Delete(b, k, k+1)
		case 2:
			b = slices.Insert(b, k, byte(r.Intn(16)))
		case 3:
			b = b[:k]
		}
	}
	return string(b)
}

// TestOpenMuch has long strings that are a journal, or become none far behind, or are none at all.
func TestOpenMuch(t *testing.T) {
	var b strings.Builder
	const n = 100000
	for i := range n {
		b.WriteString(frameOf(withId(i, adjust(i%4, 1-i%8/4*2))))
	}
	journal := b.String()
	if l := mustOpen(t, journal); l.Journal() != journal {
		t.Errorf("P9: the journal of %d commands is another behind Open", n)
	}
	checkNoJournal(t, journal+"x", n)
	checkNoJournal(t, journal+frameOf(withId(n-8, tick(1))), n)
	if l := mustOpen(t, journal+frameOf(withId(n-9, tick(1)))); l.Now() != 1 {
		t.Errorf("P9: NOW is %d, want 1", l.Now())
	}
	for _, s := range []string{"\x00", "\x05", "\x07", "\x08", "\x0e", "\xff", "x"} {
		checkNoJournal(t, strings.Repeat(s, 1000000), 0)
	}
}

// TestOpenedBesideOneAnother: ledgers of one journal have nothing to do with each other, nor with the one that wrote it.
func TestOpenedBesideOneAnother(t *testing.T) {
	first := mixed(t)
	journal := first.Journal()
	one := &desk{Ledger: mustOpen(t, journal), t: t, id: 100}
	other := &desk{Ledger: mustOpen(t, journal), t: t, id: 200}
	was := pictureOf(t, first.Ledger)
	unchanged := func(l *larder.Ledger) {
		t.Helper()
		if why := pictureOf(t, l).unlike(was); why != "" {
			t.Fatalf("P2: one ledger changed another: %s", why)
		}
	}
	scribble(one.Holds(0, 100))
	unchanged(one.Ledger)
	one.done(receive(0, 10))
	one.done(commit(5))
	one.done(tick(1000))
	unchanged(first.Ledger)
	unchanged(other.Ledger)
	first.done(release(5))
	first.done(allot(0, 0, 1))
	unchanged(other.Ledger)
	other.send(withId(101, receive(0, 11)), api.Answer{}, true) // an Id that one has, but not other
	one.states(api.Committed, api.Released, api.Expired, api.Expired, api.Committed, api.Expired, api.Expired, api.Expired, api.Expired)
	first.states(api.Committed, api.Released, api.Expired, api.Expired, api.Released, api.Open, api.Open, api.Open, api.Open)
	other.states(api.Committed, api.Released, api.Expired, api.Expired, api.Open, api.Open, api.Open, api.Open, api.Open)
	unchanged(mustOpen(t, journal))
}

// TestOpenHangsOnItsArgument asks for the same behind other journals, right ones and wrong ones.
func TestOpenHangsOnItsArgument(t *testing.T) {
	journal := mixed(t).Journal()
	for _, s := range []string{"", "x", journal, journal[:50], journal[1:], journal + journal, journal + "\x07"} {
		for _, other := range []string{"", "x", journal, journal[3:], journal + "\x08"} {
			larder.Open(other)
			checkOpen(t, s)
		}
	}
}
