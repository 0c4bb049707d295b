package larder_test

import (
	"math"
	"slices"
	"testing"

	"larder/api"
	"larder/larder"
)

// mixed has holds in every state, and something of everything else.
func mixed(t *testing.T) *desk {
	t.Helper()
	d := open(t)
	for g := range 4 {
		d.done(receive(g, 100))
		d.done(plan(g, 3*g, 50))
		d.done(allot(g, g%3, 60))
	}
	for n := range 8 {
		d.promised(promise(n%4, n%4%3, n, 5+n, 5+20*(n/4)), n+1)
	}
	d.done(commit(1))
	d.done(release(2))
	d.done(tick(12))
	d.promised(promise(0, 0, 15, 1, 1000), 9)
	d.states(api.Committed, api.Released, api.Expired, api.Expired, api.Open, api.Open, api.Open, api.Open, api.Open)
	return d
}

func scribble(list []api.Hold) {
	list = list[:cap(list)]
	for i := range list {
		list[i] = api.Hold{Number: -1, Good: -1, Channel: 9, Day: 99, Quantity: 7777, Made: -5, Ends: -5, State: 9}
	}
}

// TestHoldsAreTheCallers: writing into what came out, and into its room behind, changes nothing else.
func TestHoldsAreTheCallers(t *testing.T) {
	d := mixed(t)
	was := pictureOf(t, d.Ledger)
	all := d.Holds(0, 100)
	kept := slices.Clone(all)
	for _, x := range [][2]int{{0, 100}, {0, 1}, {0, 9}, {3, 2}, {8, 1}, {9, 1}, {0, 0}, {-7, 4}, {0, math.MaxInt}} {
		scribble(d.Holds(x[0], x[1]))
		_ = append(d.Holds(x[0], x[1]), api.Hold{Number: 1000})
		if !slices.Equal(all, kept) {
			t.Fatalf("P2: writing into Holds(%d, %d) changed what came out before", x[0], x[1])
		}
		if why := pictureOf(t, d.Ledger).unlike(was); why != "" {
			t.Fatalf("P2: writing into Holds(%d, %d) changed the ledger: %s", x[0], x[1], why)
		}
	}
	later := d.Holds(0, 100)
	scribble(all)
	if !slices.Equal(later, kept) {
		t.Errorf("P2: two lists share their room")
	}
	d.done(commit(5))
	d.done(tick(1000))
	if later[4] != kept[4] || later[5] != kept[5] {
		t.Errorf("P2: a list that came out changed with the ledger")
	}
}

func TestAgesAreTheCallers(t *testing.T) {
	d := mixed(t)
	a := d.Ages()
	a[0], a[1], a[2] = 50, 60, 70
	d.ages(1, 4, 0)
}

// TestQuestionsChangeNothing asks everything, with all edges, and then does what hangs on what was before.
func TestQuestionsChangeNothing(t *testing.T) {
	d, quiet := mixed(t), mixed(t)
	was := pictureOf(t, quiet.Ledger)
	for _, m := range edges() {
		for _, n := range edges() {
			d.ATP(m, n)
			d.Free(m, n)
			d.Holds(m, n)
		}
		d.Ages()
		d.Now()
		d.Journal()
	}
	if why := pictureOf(t, d.Ledger).unlike(was); why != "" {
		t.Fatalf("P2: questions changed the ledger: %s", why)
	}
	last := d.id
	for id := last + 1; id > last-12; id-- { // the last eight are the same too
		c := withId(id, receive(0, 77))
		if a, b := d.Do(c), quiet.Do(c); a != b {
			t.Errorf("P2: behind questions Do(%+v) = %+v, without them %+v", c, a, b)
		}
	}
}

// TestLedgersBesideOneAnother: each of them has its own time, stock, holds, last commands and journal.
func TestLedgersBesideOneAnother(t *testing.T) {
	one, other := open(t), open(t)
	empty := pictureOf(t, other.Ledger)
	one.send(withId(1, receive(0, 10)), api.Answer{}, true)
	one.send(withId(2, allot(0, 0, 10)), api.Answer{}, true)
	one.send(withId(3, promise(0, 0, 0, 4, 5)), api.Answer{Hold: 1}, true)
	one.send(withId(4, tick(3)), api.Answer{}, true)
	if why := pictureOf(t, other.Ledger).unlike(empty); why != "" {
		t.Fatalf("P2: one ledger changed another: %s", why)
	}
	was := pictureOf(t, one.Ledger)
	other.send(withId(3, commit(1)), api.Answer{Err: api.ErrNone}, false)
	other.send(withId(1, receive(0, 20)), api.Answer{}, true)
	other.send(withId(3, allot(0, 0, 20)), api.Answer{}, true)
	other.send(withId(2, promise(0, 0, 0, 20, 5)), api.Answer{Hold: 1}, true)
	other.send(withId(4, release(1)), api.Answer{}, true)
	if why := pictureOf(t, one.Ledger).unlike(was); why != "" {
		t.Fatalf("P2: one ledger changed another: %s", why)
	}
	if why := pictureOf(t, larder.New()).unlike(empty); why != "" {
		t.Errorf("P2: a third ledger: %s", why)
	}
	one.states(api.Open)
	other.states(api.Released)
}
