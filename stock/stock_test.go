package stock

import (
	"testing"

	"larder/api"
)

// TestRefusedMovesNothing has each number at its upper bound.
func TestRefusedMovesNothing(t *testing.T) {
	full := Good{onHand: api.MaxStock}
	full.planned[3] = api.MaxStock
	full.shares[1] = api.MaxStock
	g := full
	for _, e := range []api.Errno{g.Change(1), g.Plan(3, 1), g.Allot(1, 1), g.Change(-2*api.MaxStock - 1)} {
		if e != api.ErrOver {
			t.Errorf("a move over a bound = %d, want ErrOver", e)
		}
	}
	if g != full {
		t.Errorf("refused moves changed the good to %+v", g)
	}
	if e := g.Change(-2 * api.MaxStock); e != api.OK || g.onHand != -api.MaxStock {
		t.Errorf("Change down to the lower bound = %d, on hand %d", e, g.onHand)
	}
}

// TestATPLooksAhead: a day on which much is promised binds all days ahead of it, and none behind.
func TestATPLooksAhead(t *testing.T) {
	g := Good{onHand: 10}
	g.planned[5] = 4
	g.planned[9] = 6
	counting := []api.Hold{{Day: 2, Quantity: 3}, {Day: 7, Quantity: 8}, {Day: 15, Quantity: 1}}
	for day, want := range []int{3, 3, 3, 3, 3, 3, 3, 3, 3, 8, 8, 8, 8, 8, 8, 8} {
		if n := g.ATP(day, counting); n != want {
			t.Errorf("ATP at %d = %d, want %d", day, n, want)
		}
	}
}

func TestFreeIsOfTheChannel(t *testing.T) {
	var g Good
	g.shares = [api.Channels]int{10, 20, 30}
	counting := []api.Hold{{Channel: 1, Quantity: 3}, {Channel: 2, Quantity: 8}, {Channel: 1, Quantity: 1}}
	for channel, want := range []int{10, 16, 22} {
		if n := g.Free(channel, counting); n != want {
			t.Errorf("Free of %d = %d, want %d", channel, n, want)
		}
	}
}
