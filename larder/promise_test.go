package larder_test

import (
	"testing"

	"larder/api"
)

// stocked has 100 of good 1 on hand, and 100 as the share of channel 2.
func stocked(t *testing.T) *desk {
	t.Helper()
	d := open(t)
	d.done(receive(1, 100))
	d.done(allot(1, 2, 100))
	return d
}

func TestPromiseMakesAHold(t *testing.T) {
	d := stocked(t)
	d.done(tick(13))
	d.promised(promise(1, 2, 5, 40, 7), 1)
	want := api.Hold{Number: 1, Good: 1, Channel: 2, Day: 5, Quantity: 40, Made: 13, Ends: 20, State: api.Open}
	if list := d.Holds(0, 9); len(list) != 1 || list[0] != want {
		t.Errorf("P7: Holds(0, 9) = %+v, want %+v", list, want)
	}
	d.atp(1, 0, 60)
	d.free(1, 2, 60)
	d.free(1, 1, 0)
	d.atp(0, 0, 0)
}

// TestNumbersOfHolds: they go on, whatever becomes of the holds, and a refused Promise takes none.
func TestNumbersOfHolds(t *testing.T) {
	d := stocked(t)
	d.promised(promise(1, 2, 0, 1, 1), 1)
	d.done(release(1))
	d.promised(promise(1, 2, 0, 1, 1), 2)
	d.refused(promise(1, 2, 0, 101, 1), api.ErrShare)
	d.refused(promise(1, 0, 0, 1, 1), api.ErrShare)
	d.done(tick(1))
	d.promised(promise(1, 2, 0, 1, 1), 3)
	d.done(commit(3))
	d.promised(promise(1, 2, 0, 1, 1), 4)
	d.states(api.Released, api.Expired, api.Committed, api.Open)
}

func TestErrShareAlone(t *testing.T) {
	d := stocked(t)
	d.done(allot(1, 0, 10))
	d.refused(promise(1, 0, 0, 11, 5), api.ErrShare)
	d.promised(promise(1, 0, 0, 10, 5), 1)
	d.refused(promise(1, 0, 15, 1, 5), api.ErrShare)
	d.refused(promise(1, 1, 0, 1, 5), api.ErrShare)
	d.promised(promise(1, 2, 0, 90, 5), 2)
}

func TestErrStockAlone(t *testing.T) {
	d := stocked(t)
	d.done(allot(1, 2, 900))
	d.done(plan(1, 9, 50))
	d.refused(promise(1, 2, 0, 101, 5), api.ErrStock)
	d.refused(promise(1, 2, 8, 101, 5), api.ErrStock)
	d.refused(promise(1, 2, 9, 151, 5), api.ErrStock)
	d.promised(promise(1, 2, 9, 150, 5), 1)
	d.refused(promise(1, 2, 0, 1, 5), api.ErrStock) // what is promised for later is not there earlier
	d.refused(promise(1, 2, 15, 1, 5), api.ErrStock)
	d.done(plan(1, 3, 1))
	d.refused(promise(1, 2, 2, 2, 5), api.ErrStock)
	d.promised(promise(1, 2, 2, 1, 5), 2)
	d.refused(promise(0, 2, 2, 1, 5), api.ErrShare)
}

func TestErrStockBelowZero(t *testing.T) {
	d := stocked(t)
	d.done(adjust(1, -101))
	d.refused(promise(1, 2, 0, 1, 5), api.ErrStock)
	d.done(adjust(1, 1))
	d.refused(promise(1, 2, 0, 1, 5), api.ErrStock)
	d.done(adjust(1, 1))
	d.promised(promise(1, 2, 0, 1, 5), 1)
}

func TestErrManyAlone(t *testing.T) {
	d := stocked(t)
	for n := range 59 {
		d.promised(promise(1, 2, n%16, 1, 1+n), n+1)
	}
	d.done(tick(10)) // ended ones are holds still
	d.done(release(30))
	d.done(commit(40))
	d.promised(promise(1, 2, 0, 1, 1), 60)
	d.refused(promise(1, 2, 0, 1, 1), api.ErrMany)
	d.done(tick(1000))
	d.refused(promise(1, 2, 0, 1, 1), api.ErrMany)
	d.atp(1, 0, 99)
}

// TestErrorNamedFirst: ErrMany, then ErrShare, then ErrStock.
func TestErrorNamedFirst(t *testing.T) {
	d := stocked(t)
	d.refused(promise(1, 2, 0, 101, 5), api.ErrShare) // and ErrStock
	d.refused(promise(0, 0, 0, 1, 5), api.ErrShare)   // and ErrStock
	for n := range 60 {
		d.promised(promise(1, 2, 0, 1, 5), n+1)
	}
	d.done(allot(1, 1, 1000))
	d.refused(promise(1, 2, 0, 1000, 5), api.ErrMany) // and both
	d.refused(promise(0, 0, 0, 1, 5), api.ErrMany)    // and both
	d.refused(promise(1, 1, 0, 41, 5), api.ErrMany)   // and ErrStock
	d.refused(promise(1, 2, 0, 0, 5), api.ErrArg)     // and ErrMany
	d.done(receive(1, 1000))
	d.refused(promise(1, 2, 0, 41, 5), api.ErrMany) // and ErrShare
	d.refused(promise(1, 1, 0, 1, 5), api.ErrMany)
}

func TestWhatEndsIsFreeAgain(t *testing.T) {
	d := stocked(t)
	d.promised(promise(1, 2, 0, 100, 5), 1)
	d.refused(promise(1, 2, 0, 1, 5), api.ErrShare)
	d.done(release(1))
	d.promised(promise(1, 2, 0, 100, 5), 2)
	d.refused(promise(1, 2, 0, 1, 5), api.ErrShare)
	d.done(tick(5))
	d.promised(promise(1, 2, 0, 100, 5), 3)
	d.done(commit(3))
	d.done(tick(5))
	d.refused(promise(1, 2, 0, 1, 5), api.ErrShare)
	d.atp(1, 0, 0)
}

// TestEndsOnce: of the eight ways out of four states only the two out of Open are there.
func TestEndsOnce(t *testing.T) {
	d := stocked(t)
	for n := range 5 {
		d.promised(promise(1, 2, n, 1+n, 10+n), n+1)
	}
	d.done(commit(2))
	d.done(release(3))
	d.done(tick(10)) // 1 is expired
	d.states(api.Expired, api.Committed, api.Released, api.Open, api.Open)
	for _, none := range []int{1, 2, 3, 6, 7, 60, 61, 1 << 31, 1<<32 - 1} {
		d.refused(commit(none), api.ErrNone)
		d.refused(release(none), api.ErrNone)
	}
	d.done(release(5))
	d.done(commit(4))
	for none := range 5 {
		d.refused(commit(none+1), api.ErrNone)
		d.refused(release(none+1), api.ErrNone)
	}
	d.states(api.Expired, api.Committed, api.Released, api.Committed, api.Released)
	d.done(tick(1000))
	d.states(api.Expired, api.Committed, api.Released, api.Committed, api.Released)
	d.atp(1, 0, 100-2-4)
}

func TestNoHoldsYet(t *testing.T) {
	d := open(t)
	for _, none := range []int{1, 2, 60, 1<<32 - 1} {
		d.refused(commit(none), api.ErrNone)
		d.refused(release(none), api.ErrNone)
	}
	d.refused(commit(1<<32), api.ErrArg)
	d.refused(release(-1), api.ErrArg)
}
