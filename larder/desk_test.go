package larder_test

import (
	"fmt"
	"testing"

	"larder/api"
	"larder/larder"
)

// desk is a ledger under test, and the Id of the command that was done last.
type desk struct {
	*larder.Ledger
	t  *testing.T
	id int
}

func open(t *testing.T) *desk {
	t.Helper()
	l := larder.New()
	if l == nil {
		t.Fatal("P5: New() = nil")
	}
	return &desk{Ledger: l, t: t}
}

func pictureOf(t *testing.T, l *larder.Ledger) picture {
	t.Helper()
	p := picture{ages: l.Ages(), now: l.Now(), journal: l.Journal()}
	list := l.Holds(0, 1000)
	p.made = len(list)
	if copy(p.holds[:], list) < len(list) {
		t.Fatalf("P7: %d holds", len(list))
	}
	for g := range 4 {
		for d := range 16 {
			n, e := l.ATP(g, d)
			if e != api.OK {
				t.Fatalf("P8: ATP(%d, %d) = %d, %d", g, d, n, e)
			}
			p.atp[g][d] = n
		}
		for c := range 3 {
			n, e := l.Free(g, c)
			if e != api.OK {
				t.Fatalf("P8: Free(%d, %d) = %d, %d", g, c, n, e)
			}
			p.free[g][c] = n
		}
	}
	return p
}

// unlike tells the first thing that two pictures do not have in common, or nothing.
func (p picture) unlike(q picture) string {
	for g := range 4 {
		if p.atp[g] != q.atp[g] {
			return fmt.Sprintf("ATP of good %d: %v, want %v", g, p.atp[g], q.atp[g])
		}
		if p.free[g] != q.free[g] {
			return fmt.Sprintf("Free of good %d: %v, want %v", g, p.free[g], q.free[g])
		}
	}
	for i := range p.holds {
		if p.holds[i] != q.holds[i] {
			return fmt.Sprintf("hold %d: %+v, want %+v", i+1, p.holds[i], q.holds[i])
		}
	}
	if p.ages != q.ages || p.now != q.now {
		return fmt.Sprintf("Ages and Now: %v, %d, want %v, %d", p.ages, p.now, q.ages, q.now)
	}
	if p.journal != q.journal {
		return fmt.Sprintf("Journal: %q, want %q", p.journal, q.journal)
	}
	if p != q {
		return fmt.Sprintf("%d holds, want %d", p.made, q.made)
	}
	return ""
}

// send does a command as it is; where it is not to be accepted, nothing may change.
func (d *desk) send(c api.Command, want api.Answer, accepted bool) {
	d.t.Helper()
	was := pictureOf(d.t, d.Ledger)
	if a := d.Do(c); a != want {
		d.t.Fatalf("Do(%+v) = %+v, want %+v", c, a, want)
	}
	is := pictureOf(d.t, d.Ledger)
	if why := is.unlike(was); !accepted && why != "" {
		d.t.Fatalf("P1, P5: Do(%+v) changed the ledger: %s", c, why)
	}
	if accepted && is.journal != was.journal+frameOf(c) {
		d.t.Fatalf("P5: behind Do(%+v) the journal is %q, want %q and %q", c, is.journal, was.journal, frameOf(c))
	}
}

func (d *desk) next(c api.Command) api.Command {
	d.id++
	c.Id = d.id
	return c
}

// done does a command, with an Id of its own.
func (d *desk) done(c api.Command) api.Command {
	d.t.Helper()
	c = d.next(c)
	d.send(c, api.Answer{}, true)
	return c
}

func (d *desk) refused(c api.Command, why api.Errno) {
	d.t.Helper()
	d.send(d.next(c), api.Answer{Err: why}, false)
}

func (d *desk) promised(c api.Command, number int) api.Command {
	d.t.Helper()
	c = d.next(c)
	d.send(c, api.Answer{Hold: number}, true)
	return c
}

func (d *desk) atp(good, day, want int) {
	d.t.Helper()
	if n, e := d.ATP(good, day); n != want || e != api.OK {
		d.t.Errorf("P8: ATP(%d, %d) = %d, %d, want %d", good, day, n, e, want)
	}
}

func (d *desk) free(good, channel, want int) {
	d.t.Helper()
	if n, e := d.Free(good, channel); n != want || e != api.OK {
		d.t.Errorf("P8: Free(%d, %d) = %d, %d, want %d", good, channel, n, e, want)
	}
}

func (d *desk) states(want ...int) {
	d.t.Helper()
	list := d.Holds(0, 1000)
	if len(list) != len(want) {
		d.t.Fatalf("P8: %d holds, want %d", len(list), len(want))
	}
	for i, h := range list {
		if h.Number != i+1 || h.State != want[i] {
			d.t.Errorf("P6, P7: hold %d is %d in state %d, want state %d", i+1, h.Number, h.State, want[i])
		}
	}
}

// times does a command again and again, without looking at the ledger in between.
func (d *desk) times(n int, c api.Command) {
	d.t.Helper()
	for range n {
		c = d.next(c)
		if a := d.Do(c); a != (api.Answer{}) {
			d.t.Fatalf("Do(%+v) = %+v, want OK", c, a)
		}
	}
}

func receive(good, quantity int) api.Command {
	return api.Command{Kind: api.Receive, Good: good, Quantity: quantity}
}

func plan(good, day, quantity int) api.Command {
	return api.Command{Kind: api.Plan, Good: good, Day: day, Quantity: quantity}
}

func allot(good, channel, quantity int) api.Command {
	return api.Command{Kind: api.Allot, Good: good, Channel: channel, Quantity: quantity}
}

func promise(good, channel, day, quantity, ticks int) api.Command {
	return api.Command{Kind: api.Promise, Good: good, Channel: channel, Day: day, Quantity: quantity, Ticks: ticks}
}

func commit(hold int) api.Command { return api.Command{Kind: api.Commit, Hold: hold} }

func release(hold int) api.Command { return api.Command{Kind: api.Release, Hold: hold} }

func adjust(good, quantity int) api.Command {
	return api.Command{Kind: api.Adjust, Good: good, Quantity: quantity}
}

func tick(ticks int) api.Command { return api.Command{Kind: api.Tick, Ticks: ticks} }

func withId(id int, c api.Command) api.Command {
	c.Id = id
	return c
}
