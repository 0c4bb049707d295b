package larder

import "larder/api"

// decide changes nothing unless it answers OK.
func (l *Ledger) decide(c api.Command) api.Answer {
	good := &l.goods[c.Good] // good 0, where the kind needs none
	switch c.Kind {
	case api.Receive, api.Adjust:
		return api.Answer{Err: good.Change(c.Quantity)}
	case api.Plan:
		return api.Answer{Err: good.Plan(c.Day, c.Quantity)}
	case api.Allot:
		return api.Answer{Err: good.Allot(c.Channel, c.Quantity)}
	case api.Promise:
		return l.promise(c)
	case api.Commit:
		return api.Answer{Err: l.holds.Close(c.Hold, api.Committed)}
	case api.Release:
		return api.Answer{Err: l.holds.Close(c.Hold, api.Released)}
	default:
		return api.Answer{Err: l.tick(c.Ticks)}
	}
}

func (l *Ledger) promise(c api.Command) api.Answer {
	if err := l.mayPromise(c); err != api.OK {
		return api.Answer{Err: err}
	}
	return api.Answer{Hold: l.holds.Add(api.Hold{
		Good:     c.Good,
		Channel:  c.Channel,
		Day:      c.Day,
		Quantity: c.Quantity,
		Made:     l.now,
		Ends:     l.now + c.Ticks,
	})}
}

func (l *Ledger) mayPromise(c api.Command) api.Errno {
	good, counting := &l.goods[c.Good], l.holds.Counting(c.Good)
	switch {
	case l.holds.Made() >= api.MaxHolds:
		return api.ErrMany
	case good.Free(c.Channel, counting) < c.Quantity:
		return api.ErrShare
	case good.ATP(c.Day, counting) < c.Quantity:
		return api.ErrStock
	default:
		return api.OK
	}
}

func (l *Ledger) tick(ticks int) api.Errno {
	if l.now+ticks > api.MaxTime {
		return api.ErrTime
	}
	l.now += ticks
	l.holds.Expire(l.now)
	return api.OK
}
