// Package command: which commands are right, and how they stand as bytes.
package command

import (
	"larder/api"
	"larder/rows"
)

// needs is a set of the numbers that a command has to have.
type needs uint16

const (
	needKind needs = 1 << iota
	needId
	needGood
	needChannel
	needDay
	needQuantity
	needChange // a Quantity too, but one that may be below 0
	needHold
	needTicks
)

const needStock = needGood | needQuantity

// maxHold is no rule of the ledger: a greater Hold has no room in a frame.
const maxHold = 1<<32 - 1

// lift keeps a change from being below 0 in a frame, where numbers have no sign.
const lift = 1 << 31

// part is one of the numbers of a command: what it may be, and how it stands in a frame.
type part struct {
	need      needs
	low, high int
	width     int
	lift      int
}

// table is in the order of a frame.
var table = [...]part{
	{need: needKind, low: api.Receive, high: api.Tick, width: 1},
	{need: needId, low: 0, high: api.MaxId, width: 4},
	{need: needGood, low: 0, high: api.Goods - 1, width: 1},
	{need: needChannel, low: 0, high: api.Channels - 1, width: 1},
	{need: needDay, low: 0, high: api.Days - 1, width: 1},
	{need: needQuantity, low: 1, high: api.MaxQuantity, width: 4},
	{need: needChange, low: -api.MaxQuantity, high: api.MaxQuantity, width: 4, lift: lift},
	{need: needHold, low: 1, high: maxHold, width: 4},
	{need: needTicks, low: 1, high: api.MaxTicks, width: 2},
}

// needsOf asks for Kind and Id even where there is no such kind: the bounds of Kind then refuse it.
func needsOf(kind int) needs {
	n := needKind | needId
	switch kind {
	case api.Promise:
		n |= needChannel | needTicks
		fallthrough
	case api.Plan:
		n |= needDay
		fallthrough
	case api.Receive:
		n |= needStock
	case api.Allot: // stands apart, as it needs Receive's numbers without Plan's
		n |= needStock | needChannel
	case api.Adjust:
		n |= needGood | needChange
	case api.Commit, api.Release:
		n |= needHold
	case api.Tick:
		n |= needTicks
	}
	return n
}

func partsOf(kind int) []part {
	wanted := needsOf(kind)
	parts := make([]part, 0, len(table))
	for _, p := range table {
		if wanted&p.need != 0 {
			parts = append(parts, p)
		}
	}
	return parts
}

func widthOf(parts []part) int {
	return rows.SumOf(parts, func(p part) int { return p.width })
}

// in is where the part's number stands in a command.
func (p part) in(c *api.Command) *int {
	switch p.need {
	case needKind:
		return &c.Kind
	case needId:
		return &c.Id
	case needGood:
		return &c.Good
	case needChannel:
		return &c.Channel
	case needDay:
		return &c.Day
	case needQuantity, needChange:
		return &c.Quantity
	case needHold:
		return &c.Hold
	default:
		return &c.Ticks
	}
}

func (p part) takes(number int) bool {
	if p.need == needChange && number == 0 { // its bounds lie on both sides of 0, yet a change by 0 is none
		return false
	}
	return p.low <= number && number <= p.high
}
