// Package stock: what there is of a good, what is to come, how it is shared out, and what of it can still be promised.
package stock

import (
	"larder/api"
	"larder/rows"
)

// Good is one good; at first there is nothing of it.
type Good struct {
	onHand  int
	planned [api.Days]int
	shares  [api.Channels]int
}

// Change brings what is on hand up, or down.
func (g *Good) Change(quantity int) api.Errno { return move(&g.onHand, quantity) }

// Plan brings up what is to come on a day.
func (g *Good) Plan(day, quantity int) api.Errno { return move(&g.planned[day], quantity) }

// Allot brings up a channel's share.
func (g *Good) Allot(channel, quantity int) api.Errno { return move(&g.shares[channel], quantity) }

// move has one bound on each side for all: what only goes up never comes near the lower one.
func move(number *int, by int) api.Errno {
	moved := *number + by
	if moved > api.MaxStock || moved < -api.MaxStock {
		return api.ErrOver
	}
	*number = moved
	return api.OK
}

// ATP tells what can be promised for a day beside the holds of the good that count.
func (g *Good) ATP(day int, counting []api.Hold) int {
	var left [api.Days]int
	for k := range left {
		left[k] = g.supply(k) - demand(k, counting)
	}
	return rows.Least(left[day:])
}

// Free tells what is left of a channel's share beside the holds of the good that count.
func (g *Good) Free(channel int, counting []api.Hold) int {
	return g.shares[channel] - rows.SumOf(counting, func(h api.Hold) int {
		if h.Channel != channel {
			return 0
		}
		return h.Quantity
	})
}

func (g *Good) supply(day int) int { return g.onHand + rows.Sum(g.planned[:day+1]) }

func demand(day int, counting []api.Hold) int {
	return rows.SumOf(counting, func(h api.Hold) int {
		if h.Day > day {
			return 0
		}
		return h.Quantity
	})
}
