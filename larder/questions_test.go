package larder_test

import (
	"math"
	"slices"
	"testing"

	"larder/api"
	"larder/larder"
)

func TestDocumentExample(t *testing.T) {
	d := open(t)
	d.done(receive(0, 10))
	d.done(plan(0, 3, 5))
	d.done(allot(0, 1, 20))
	d.atp(0, 0, 10)
	d.atp(0, 3, 15)
	d.promised(promise(0, 1, 3, 8, 100), 1)
	d.atp(0, 0, 7)
	d.atp(0, 3, 7)
	d.refused(promise(0, 1, 0, 8, 100), api.ErrStock)
	d.promised(promise(0, 1, 0, 7, 100), 2)
	d.atp(0, 0, 0)
	d.done(release(1))
	d.atp(0, 0, 3)
	d.atp(0, 3, 8)
	d.free(0, 1, 13)
	d.promised(promise(0, 1, 5, 6, 100), 3)
	d.atp(0, 0, 2)
}

// TestATPIsTheLeast has what is left go up and down from day to day.
func TestATPIsTheLeast(t *testing.T) {
	d := open(t)
	d.done(allot(2, 0, 1000))
	d.done(plan(2, 1, 10))
	d.done(plan(2, 4, 20))
	d.done(plan(2, 8, 30))
	d.promised(promise(2, 0, 2, 4, 9), 1)
	d.promised(promise(2, 0, 6, 19, 9), 2)
	d.promised(promise(2, 0, 15, 12, 9), 3)
	for day, want := range []int{0, 6, 6, 6, 7, 7, 7, 7, 25, 25, 25, 25, 25, 25, 25, 25} {
		d.atp(2, day, want)
	}
	d.done(adjust(2, -20))
	for day, want := range []int{-20, -14, -14, -14, -13, -13, -13, -13, 5, 5, 5, 5, 5, 5, 5, 5} {
		d.atp(2, day, want)
	}
}

func TestNoSuchPlace(t *testing.T) {
	d := stocked(t)
	inside := func(n, high int) bool { return 0 <= n && n <= high }
	for _, m := range edges() {
		for _, n := range edges() {
			k, e := d.ATP(m, n)
			if there := inside(m, 3) && inside(n, 15); there != (e == api.OK) || !there && (k != 0 || e != api.ErrArg) {
				t.Errorf("P8: ATP(%d, %d) = %d, %d", m, n, k, e)
			}
			k, e = d.Free(m, n)
			if there := inside(m, 3) && inside(n, 2); there != (e == api.OK) || !there && (k != 0 || e != api.ErrArg) {
				t.Errorf("P8: Free(%d, %d) = %d, %d", m, n, k, e)
			}
		}
	}
	for _, x := range [][2]int{{1, -1}, {1, 16}, {-1, 0}, {4, 0}, {1, math.MaxInt}, {math.MinInt, 1}} {
		if n, e := d.ATP(x[0], x[1]); n != 0 || e != api.ErrArg {
			t.Errorf("P8: ATP(%d, %d) = %d, %d, want ErrArg", x[0], x[1], n, e)
		}
	}
	for _, x := range [][2]int{{1, -1}, {1, 3}, {-1, 2}, {4, 2}, {1, math.MinInt}, {math.MaxInt, 2}} {
		if n, e := d.Free(x[0], x[1]); n != 0 || e != api.ErrArg {
			t.Errorf("P8: Free(%d, %d) = %d, %d, want ErrArg", x[0], x[1], n, e)
		}
	}
}

func TestHoldsAtEveryEdge(t *testing.T) {
	for _, made := range []int{0, 1, 2, 5, 60} {
		d := stocked(t)
		var all []api.Hold
		for n := range made {
			d.promised(promise(1, 2, n%16, 1, 1+n), n+1)
			all = append(all, api.Hold{Number: n + 1, Good: 1, Channel: 2, Day: n % 16, Quantity: 1, Ends: 1 + n, State: api.Open})
		}
		sides := []int{math.MinInt, math.MinInt + 1, -61, -60, -2, -1, 0, 1, 2, made - 2, made - 1, made, made + 1, made + 2, 61, 1 << 32, math.MaxInt - 1, math.MaxInt}
		for _, after := range sides {
			for _, n := range sides {
				var want []api.Hold
				for _, h := range all {
					if h.Number > after && len(want) < n {
						want = append(want, h)
					}
				}
				if list := d.Holds(after, n); !slices.Equal(list, want) {
					t.Errorf("P8: of %d Holds(%d, %d) = %+v, want %+v", made, after, n, list, want)
				}
			}
		}
	}
}

func TestHoldsWhateverBecameOfThem(t *testing.T) {
	d := stocked(t)
	d.promised(promise(1, 2, 1, 1, 1), 1)
	d.promised(promise(1, 2, 2, 2, 2), 2)
	d.promised(promise(1, 2, 3, 3, 3), 3)
	d.promised(promise(1, 2, 4, 4, 4), 4)
	d.done(commit(3))
	d.done(release(2))
	d.done(tick(1))
	want := []api.Hold{
		{Number: 1, Good: 1, Channel: 2, Day: 1, Quantity: 1, Ends: 1, State: api.Expired},
		{Number: 2, Good: 1, Channel: 2, Day: 2, Quantity: 2, Ends: 2, State: api.Released},
		{Number: 3, Good: 1, Channel: 2, Day: 3, Quantity: 3, Ends: 3, State: api.Committed},
		{Number: 4, Good: 1, Channel: 2, Day: 4, Quantity: 4, Ends: 4, State: api.Open},
	}
	if list := d.Holds(0, 4); !slices.Equal(list, want) {
		t.Errorf("P8: Holds(0, 4) = %+v, want %+v", list, want)
	}
	if list := d.Holds(1, 2); !slices.Equal(list, want[1:3]) {
		t.Errorf("P8: Holds(1, 2) = %+v, want %+v", list, want[1:3])
	}
}

func (d *desk) ages(want ...int) {
	d.t.Helper()
	if a := d.Ages(); !slices.Equal(a[:], want) {
		d.t.Errorf("P8: at %d Ages() = %v, want %v", d.Now(), a, want)
	}
}

func TestAges(t *testing.T) {
	d := stocked(t)
	d.ages(0, 0, 0)
	d.promised(promise(1, 2, 0, 1, 1000), 1)
	d.ages(1, 0, 0)
	d.done(tick(9))
	d.ages(1, 0, 0)
	d.promised(promise(1, 2, 0, 1, 1000), 2)
	d.promised(promise(1, 2, 0, 1, 1000), 3)
	d.done(tick(1)) // NOW 10
	d.ages(2, 1, 0)
	d.done(tick(9)) // NOW 19: 2 and 3 are 10 ticks old
	d.ages(0, 3, 0)
	d.done(tick(80)) // NOW 99
	d.ages(0, 3, 0)
	d.promised(promise(1, 2, 0, 1, 1000), 4)
	d.done(tick(1)) // NOW 100
	d.ages(1, 2, 1)
	d.done(tick(8)) // NOW 108
	d.ages(1, 2, 1)
	d.done(tick(1)) // NOW 109
	d.ages(0, 1, 3)
	d.done(tick(890)) // NOW 999
	d.ages(0, 0, 4)
	d.done(tick(1)) // NOW 1000: 1 is expired
	d.ages(0, 0, 3)
}

// TestAgesAreOfOpenHolds: those that are not open have none, at any age.
func TestAgesAreOfOpenHolds(t *testing.T) {
	d := stocked(t)
	for n := range 4 {
		d.promised(promise(1, 2, 0, 1, 500), n+1)
	}
	d.done(commit(1))
	d.ages(3, 0, 0)
	d.done(release(2))
	d.ages(2, 0, 0)
	d.done(tick(50))
	d.ages(0, 2, 0)
	d.done(commit(3))
	d.ages(0, 1, 0)
	d.done(tick(50))
	d.ages(0, 0, 1)
	d.done(tick(400))
	d.ages(0, 0, 0)
}

func TestNow(t *testing.T) {
	d := open(t)
	want := 0
	for _, ticks := range []int{1, 10, 1000, 999} {
		d.done(tick(ticks))
		d.done(receive(0, 1))
		want += ticks
		if n := d.Now(); n != want {
			t.Errorf("P8: Now() = %d, want %d", n, want)
		}
	}
}

// TestJournalIsOfWhatWasAccepted has each kind, with what is refused and what is sent again in between.
func TestJournalIsOfWhatWasAccepted(t *testing.T) {
	l := larder.New()
	want := ""
	for i, c := range []api.Command{receive(0, 9), plan(1, 2, 3), allot(0, 1, 8), promise(0, 1, 2, 3, 4), commit(1), promise(0, 1, 2, 3, 4), release(2), adjust(0, -7), tick(5), receive(0, 9)} {
		c.Id = 70000 * (i + 1)
		l.Do(withId(9, commit(50)))
		l.Do(withId(9, api.Command{Kind: 77}))
		l.Do(c)
		l.Do(withId(c.Id, tick(1000)))
		l.Do(c)
		want += frameOf(c)
		if j := l.Journal(); j != want {
			t.Fatalf("P8: Journal() = %q, want %q", j, want)
		}
	}
}
