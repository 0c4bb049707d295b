package larder_test

import (
	"testing"

	"larder/api"
)

func TestReceive(t *testing.T) {
	d := open(t)
	d.done(receive(1, 10))
	d.done(receive(1, 5))
	for day := range 16 {
		d.atp(1, day, 15)
	}
	for _, other := range []int{0, 2, 3} {
		d.atp(other, 15, 0)
	}
}

func TestReceiveBound(t *testing.T) {
	d := open(t)
	d.times(999, receive(3, 1000000))
	d.done(receive(3, 999999))
	d.refused(receive(3, 2), api.ErrOver)
	d.refused(receive(3, 1000000), api.ErrOver)
	d.done(receive(3, 1))
	d.atp(3, 0, 1000000000)
	d.refused(receive(3, 1), api.ErrOver)
	d.done(receive(2, 1))
	d.done(adjust(3, -1))
	d.done(receive(3, 1))
}

func TestPlan(t *testing.T) {
	d := open(t)
	d.done(plan(0, 4, 7))
	d.done(plan(0, 4, 2))
	d.done(plan(0, 15, 100))
	d.done(plan(0, 0, 1))
	for day, want := range []int{1, 1, 1, 1, 10, 10, 10, 10, 10, 10, 10, 10, 10, 10, 10, 110} {
		d.atp(0, day, want)
	}
	d.atp(1, 15, 0)
}

func TestPlanBound(t *testing.T) {
	d := open(t)
	d.times(1000, receive(1, 1000000)) // does not go into what is planned
	d.times(999, plan(1, 6, 1000000))
	d.done(plan(1, 6, 999999))
	d.refused(plan(1, 6, 2), api.ErrOver)
	d.done(plan(1, 6, 1))
	d.refused(plan(1, 6, 1), api.ErrOver)
	d.refused(plan(1, 6, 1000000), api.ErrOver)
	d.done(plan(1, 5, 1))
	d.done(plan(1, 7, 1))
	d.done(plan(0, 6, 1))
	d.atp(1, 15, 2000000002)
}

func TestAllot(t *testing.T) {
	d := open(t)
	d.done(allot(2, 1, 7))
	d.done(allot(2, 1, 3))
	d.done(allot(2, 2, 5))
	d.free(2, 0, 0)
	d.free(2, 1, 10)
	d.free(2, 2, 5)
	d.free(1, 1, 0)
	d.atp(2, 15, 0)
}

func TestAllotBound(t *testing.T) {
	d := open(t)
	d.times(999, allot(0, 2, 1000000))
	d.done(allot(0, 2, 999999))
	d.refused(allot(0, 2, 2), api.ErrOver)
	d.done(allot(0, 2, 1))
	d.free(0, 2, 1000000000)
	d.refused(allot(0, 2, 1), api.ErrOver)
	d.refused(allot(0, 2, 1000000), api.ErrOver)
	d.done(allot(0, 1, 1))
	d.done(allot(1, 2, 1))
}

// TestAllotBoundIsOfTheShare: what is promised of a share leaves no more room in it.
func TestAllotBoundIsOfTheShare(t *testing.T) {
	d := open(t)
	d.times(1000, allot(0, 0, 1000000))
	d.done(receive(0, 5))
	d.promised(promise(0, 0, 0, 5, 10), 1)
	d.free(0, 0, 999999995)
	d.refused(allot(0, 0, 1), api.ErrOver)
}

func TestAdjust(t *testing.T) {
	d := open(t)
	d.done(adjust(0, 8))
	d.done(adjust(0, -3))
	d.atp(0, 0, 5)
	d.done(adjust(0, -6))
	d.atp(0, 0, -1)
	d.atp(0, 15, -1)
	d.atp(1, 0, 0)
	d.done(plan(0, 3, 4))
	d.atp(0, 0, -1)
	d.atp(0, 3, 3)
}

func TestAdjustBounds(t *testing.T) {
	d := open(t)
	d.times(999, adjust(1, 1000000))
	d.done(adjust(1, 999999))
	d.refused(adjust(1, 2), api.ErrOver)
	d.done(adjust(1, 1))
	d.refused(adjust(1, 1), api.ErrOver)
	d.refused(adjust(1, 1000000), api.ErrOver)
	d.refused(receive(1, 1), api.ErrOver)
	d.times(999, adjust(2, -1000000))
	d.done(adjust(2, -999999))
	d.refused(adjust(2, -2), api.ErrOver)
	d.done(adjust(2, -1))
	d.atp(2, 0, -1000000000)
	d.refused(adjust(2, -1), api.ErrOver)
	d.refused(adjust(2, -1000000), api.ErrOver)
	d.done(adjust(2, 1))
	d.done(adjust(2, -1))
	d.done(receive(2, 1))
}

// TestAdjustBoundIsOfWhatIsOnHand: what is promised and what is planned has no part in it.
func TestAdjustBoundIsOfWhatIsOnHand(t *testing.T) {
	d := open(t)
	d.times(1000, receive(0, 1000000))
	d.done(allot(0, 0, 1000000))
	d.promised(promise(0, 0, 0, 1000000, 10), 1)
	d.atp(0, 0, 999000000)
	d.refused(receive(0, 1), api.ErrOver)
	d.refused(adjust(0, 1), api.ErrOver)
	d.times(1000, plan(1, 0, 1000000))
	d.done(receive(1, 1))
	d.done(adjust(1, 1))
}

func TestTick(t *testing.T) {
	d := open(t)
	d.done(tick(1))
	d.done(tick(1000))
	d.done(tick(30))
	if n := d.Now(); n != 1031 {
		t.Errorf("P6: Now() = %d, want 1031", n)
	}
}

func TestTickBound(t *testing.T) {
	d := open(t)
	d.times(999, tick(1000))
	d.done(tick(999))
	d.refused(tick(2), api.ErrTime)
	d.refused(tick(1000), api.ErrTime)
	d.done(tick(1))
	if n := d.Now(); n != 1000000 {
		t.Errorf("P6: Now() = %d, want 1000000", n)
	}
	d.refused(tick(1), api.ErrTime)
	d.refused(tick(1000), api.ErrTime)
}

// TestTickRefusedExpiresNothing: a hold may end behind the last tick there is.
func TestTickRefusedExpiresNothing(t *testing.T) {
	d := open(t)
	d.times(1000, tick(1000))
	d.done(receive(0, 1))
	d.done(allot(0, 0, 1))
	d.promised(promise(0, 0, 0, 1, 1), 1)
	d.refused(tick(1), api.ErrTime)
	d.refused(tick(1000), api.ErrTime)
	d.states(api.Open)
	if h := d.Holds(0, 1)[0]; h.Made != 1000000 || h.Ends != 1000001 {
		t.Errorf("P7: hold 1 is made at %d and ends at %d, want 1000000 and 1000001", h.Made, h.Ends)
	}
	d.done(commit(1))
}

// TestTickEndsSome: those that end at NOW or before, and are open.
func TestTickEndsSome(t *testing.T) {
	d := open(t)
	d.done(receive(0, 200))
	d.done(allot(0, 0, 200))
	d.done(tick(7))
	for i, ticks := range []int{1, 9, 10, 11, 1000, 10, 10, 5} {
		d.promised(promise(0, 0, i, 1<<i/2+1, ticks), i+1)
	}
	d.done(commit(6))
	d.done(release(7))
	const o, c, r, x = api.Open, api.Committed, api.Released, api.Expired
	d.states(o, o, o, o, o, c, r, o)
	d.atp(0, 15, 200-(1+2+3+5+9+17+65))
	d.done(tick(1)) // NOW 8: 1 ends
	d.states(x, o, o, o, o, c, r, o)
	d.done(tick(8)) // NOW 16: 2 ends, and 8 has ended
	d.states(x, x, o, o, o, c, r, x)
	d.atp(0, 15, 200-(3+5+9+17))
	d.free(0, 0, 200-(3+5+9+17))
	d.done(tick(1)) // NOW 17: 3 ends
	d.states(x, x, x, o, o, c, r, x)
	d.done(tick(1))
	d.states(x, x, x, x, o, c, r, x)
	d.done(tick(988)) // NOW 1006
	d.states(x, x, x, x, o, c, r, x)
	d.done(tick(1))
	d.states(x, x, x, x, x, c, r, x)
	d.atp(0, 15, 200-17)
}

func TestTickEndsHoldsOfAllGoods(t *testing.T) {
	d := open(t)
	for g := range 4 {
		d.done(receive(g, 10))
		for c := range 3 {
			d.done(allot(g, c, 3))
			d.promised(promise(g, c, g+c, 3, 4), 3*g+c+1)
		}
	}
	d.done(tick(3))
	for g := range 4 {
		d.atp(g, 0, 1)
	}
	d.done(tick(1))
	for g := range 4 {
		d.atp(g, 0, 10)
		d.free(g, 2, 3)
	}
	if a := d.Ages(); a != [3]int{} {
		t.Errorf("P8: Ages() = %v, want none", a)
	}
}
