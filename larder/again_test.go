package larder_test

import (
	"math"
	"testing"

	"larder/api"
	"larder/larder"
)

func TestNewIsEmpty(t *testing.T) {
	if why := pictureOf(t, larder.New()).unlike(picture{}); why != "" {
		t.Errorf("P5: a new ledger: %s", why)
	}
}

func TestDoWrongCommand(t *testing.T) {
	d := open(t)
	d.done(receive(0, 10))
	d.done(allot(0, 0, 10))
	d.promised(promise(0, 0, 0, 1, 10), 1)
	for _, c := range ordinary() {
		for _, number := range allFields {
			for _, n := range edges() {
				wrong := withId(1000, c)
				*number(&wrong) = n
				if isRight(wrong) {
					continue
				}
				if a := d.Do(wrong); a != (api.Answer{Err: api.ErrArg}) {
					t.Fatalf("P5: Do(%+v) = %+v, want ErrArg", wrong, a)
				}
			}
		}
	}
	d.refused(api.Command{}, api.ErrArg)
	d.refused(receive(0, 0), api.ErrArg)
	d.refused(receive(4, 1), api.ErrArg)
	d.refused(adjust(0, 0), api.ErrArg)
	d.refused(commit(0), api.ErrArg)
	d.refused(tick(math.MinInt), api.ErrArg)
	d.send(withId(-1, receive(0, 1)), api.Answer{Err: api.ErrArg}, false)
	d.send(withId(api.MaxId+1, receive(0, 1)), api.Answer{Err: api.ErrArg}, false)
	d.send(withId(api.MaxId, receive(0, 1)), api.Answer{}, true)
}

// TestAgainEachKind has exactly eight commands, one of each kind, and sends all of them again, many times over.
func TestAgainEachKind(t *testing.T) {
	d := open(t)
	var commands []api.Command
	var answers []api.Answer
	for i, c := range []api.Command{receive(1, 100), plan(1, 2, 5), allot(1, 2, 50), promise(1, 2, 3, 7, 100), commit(1), adjust(1, -3), tick(5), promise(1, 2, 4, 9, 50)} {
		var a api.Answer
		switch i {
		case 3:
			a.Hold = 1
		case 7:
			a.Hold = 2
		}
		c.Id = 10 * i // 0 is an Id too
		d.send(c, a, true)
		commands, answers = append(commands, c), append(answers, a)
		for k := range commands {
			d.send(commands[k], answers[k], false)
		}
	}
	for range 3 {
		for k := range commands {
			d.send(commands[k], answers[k], false)
		}
	}
	d.states(api.Committed, api.Open)
}

// TestAgainIsAnsweredAsThen: what has become of the hold since does not matter.
func TestAgainIsAnsweredAsThen(t *testing.T) {
	d := open(t)
	d.done(receive(0, 10))
	d.done(allot(0, 0, 10))
	first := d.promised(promise(0, 0, 0, 10, 5), 1)
	d.send(first, api.Answer{Hold: 1}, false)
	let := d.done(release(1))
	d.send(first, api.Answer{Hold: 1}, false)
	d.send(let, api.Answer{}, false)
	second := d.promised(promise(0, 0, 0, 10, 5), 2)
	gone := d.done(tick(5))
	d.send(second, api.Answer{Hold: 2}, false)
	d.send(first, api.Answer{Hold: 1}, false)
	d.send(gone, api.Answer{}, false)
	d.states(api.Released, api.Expired)
}

func TestSameIdOtherCommand(t *testing.T) {
	d := open(t)
	d.done(receive(2, 1000))
	d.done(allot(2, 1, 1000))
	first := withId(500, promise(2, 1, 3, 4, 5))
	d.send(first, api.Answer{Hold: 1}, true)
	for _, change := range []func(c *api.Command){
		func(c *api.Command) { c.Good = 0 },
		func(c *api.Command) { c.Channel = 0 },
		func(c *api.Command) { c.Day = 0 },
		func(c *api.Command) { c.Quantity = 1 },
		func(c *api.Command) { c.Ticks = 1 },
		func(c *api.Command) { *c = withId(500, receive(2, 4)) },
		func(c *api.Command) { *c = withId(500, plan(2, 3, 4)) },
		func(c *api.Command) { *c = withId(500, allot(2, 1, 4)) },
		func(c *api.Command) { *c = withId(500, commit(1)) },
		func(c *api.Command) { *c = withId(500, release(1)) },
		func(c *api.Command) { *c = withId(500, adjust(2, 4)) },
		func(c *api.Command) { *c = withId(500, tick(5)) },
	} {
		c := first
		change(&c)
		d.send(c, api.Answer{Err: api.ErrArg}, false)
		d.send(first, api.Answer{Hold: 1}, false)
	}
	d.send(withId(501, promise(2, 1, 3, 4, 5)), api.Answer{Hold: 2}, true) // but for the Id the same
}

// TestSameIdAheadOfTheRest: a command with an Id of the last that could not be done anyhow.
func TestSameIdAheadOfTheRest(t *testing.T) {
	d := open(t)
	d.send(withId(3, receive(0, 1)), api.Answer{}, true)
	d.send(withId(3, commit(1)), api.Answer{Err: api.ErrArg}, false)
	d.send(withId(3, promise(0, 0, 0, 1, 1)), api.Answer{Err: api.ErrArg}, false)
	d.send(withId(4, commit(1)), api.Answer{Err: api.ErrNone}, false)
}

func TestIdZeroOnNewLedger(t *testing.T) {
	d := open(t)
	d.send(receive(0, 5), api.Answer{}, true)
	d.send(receive(0, 5), api.Answer{}, false)
	d.send(receive(0, 6), api.Answer{Err: api.ErrArg}, false)
	d.send(tick(1), api.Answer{Err: api.ErrArg}, false)
	d.atp(0, 0, 5)
}

// TestNinthLast: seven more leave a command among the last eight, eight more do not.
func TestNinthLast(t *testing.T) {
	for _, first := range []int{0, 1, 900} {
		d := open(t)
		d.send(withId(first, receive(0, 5)), api.Answer{}, true)
		for i := range 7 {
			d.send(withId(100+i, receive(1, 1)), api.Answer{}, true)
			d.send(withId(first, receive(0, 5)), api.Answer{}, false)
			d.send(withId(first, receive(0, 6)), api.Answer{Err: api.ErrArg}, false)
		}
		d.send(withId(107, receive(1, 1)), api.Answer{}, true)
		d.send(withId(100, receive(1, 1)), api.Answer{}, false) // now the eighth last
		d.send(withId(first, receive(0, 5)), api.Answer{}, true)
		d.atp(0, 0, 10)
		d.send(withId(100, receive(1, 2)), api.Answer{}, true) // the ninth last, with something else
		d.atp(1, 0, 10)
	}
}

// TestNinthLastMayBeRefused: what is decided anew is decided by the ledger as it is now.
func TestNinthLastMayBeRefused(t *testing.T) {
	d := open(t)
	d.done(receive(0, 10))
	d.done(allot(0, 0, 20))
	first := d.promised(promise(0, 0, 0, 6, 100), 1)
	done := d.done(commit(1))
	for range 7 {
		d.done(tick(1))
	}
	d.send(first, api.Answer{Err: api.ErrStock}, false)
	d.send(done, api.Answer{}, false)
	d.done(tick(1))
	d.send(done, api.Answer{Err: api.ErrNone}, false)
	d.done(receive(0, 2))
	d.send(first, api.Answer{Hold: 2}, true)
}

// TestRefusedAreNotAmongTheLast: they take none of the eight places, and their Ids stay free.
func TestRefusedAreNotAmongTheLast(t *testing.T) {
	d := open(t)
	d.send(withId(1, receive(0, 5)), api.Answer{}, true)
	for i := range 20 {
		d.send(withId(100+i, commit(9)), api.Answer{Err: api.ErrNone}, false)
		d.send(withId(200+i, promise(0, 0, 0, 1, 1)), api.Answer{Err: api.ErrShare}, false)
		d.send(withId(1, receive(0, 7)), api.Answer{Err: api.ErrArg}, false)
		d.send(withId(300+i, receive(0, 0)), api.Answer{Err: api.ErrArg}, false)
	}
	d.send(withId(1, receive(0, 5)), api.Answer{}, false)
	d.send(withId(100, tick(1)), api.Answer{}, true)
	later := withId(200, promise(0, 0, 0, 1, 1))
	d.send(later, api.Answer{Err: api.ErrShare}, false)
	d.send(withId(2, allot(0, 0, 5)), api.Answer{}, true)
	d.send(later, api.Answer{Hold: 1}, true) // refused once, decided anew
	d.send(later, api.Answer{Hold: 1}, false)
}

// TestAgainTakesNoPlace: a command sent again is no newer than it was.
func TestAgainTakesNoPlace(t *testing.T) {
	d := open(t)
	d.send(withId(1, receive(0, 5)), api.Answer{}, true)
	for i := range 8 {
		d.send(withId(100+i, receive(1, 1)), api.Answer{}, true)
		if i < 7 {
			for range 9 {
				d.send(withId(1, receive(0, 5)), api.Answer{}, false)
			}
		}
	}
	d.send(withId(1, receive(0, 5)), api.Answer{}, true)
}
