package larder_test

// The document's table and frames, written out once more and in another way than the program has them, with numbers in place of package api's names.

import (
	"encoding/binary"
	"math"

	"larder/api"
)

type bound struct{ low, high int }

// row has the bounds of the numbers behind Kind and Id; what is not needed is from 0 to 0.
type row struct{ good, channel, day, quantity, hold, ticks bound }

var tableOfKinds = map[int]row{
	1: {good: bound{0, 3}, quantity: bound{1, 1000000}},
	2: {good: bound{0, 3}, day: bound{0, 15}, quantity: bound{1, 1000000}},
	3: {good: bound{0, 3}, channel: bound{0, 2}, quantity: bound{1, 1000000}},
	4: {good: bound{0, 3}, channel: bound{0, 2}, day: bound{0, 15}, quantity: bound{1, 1000000}, ticks: bound{1, 1000}},
	5: {hold: bound{1, 4294967295}},
	6: {hold: bound{1, 4294967295}},
	7: {good: bound{0, 3}, quantity: bound{-1000000, 1000000}},
	8: {ticks: bound{1, 1000}},
}

func (b bound) has(n int) bool { return b.low <= n && n <= b.high }

func isRight(c api.Command) bool {
	r, known := tableOfKinds[c.Kind]
	if !known || c.Kind == 7 && c.Quantity == 0 {
		return false
	}
	return bound{0, 2147483647}.has(c.Id) &&
		r.good.has(c.Good) && r.channel.has(c.Channel) && r.day.has(c.Day) &&
		r.quantity.has(c.Quantity) && r.hold.has(c.Hold) && r.ticks.has(c.Ticks)
}

// frameOf is asked only for commands that are right.
func frameOf(c api.Command) string {
	low := binary.LittleEndian
	b := low.AppendUint32([]byte{0, byte(c.Kind)}, uint32(c.Id))
	switch c.Kind {
	case 1:
		b = low.AppendUint32(append(b, byte(c.Good)), uint32(c.Quantity))
	case 2:
		b = low.AppendUint32(append(b, byte(c.Good), byte(c.Day)), uint32(c.Quantity))
	case 3:
		b = low.AppendUint32(append(b, byte(c.Good), byte(c.Channel)), uint32(c.Quantity))
	case 4:
		b = low.AppendUint32(append(b, byte(c.Good), byte(c.Channel), byte(c.Day)), uint32(c.Quantity))
		b = low.AppendUint16(b, uint16(c.Ticks))
	case 5, 6:
		b = low.AppendUint32(b, uint32(c.Hold))
	case 7:
		b = low.AppendUint32(append(b, byte(c.Good)), uint32(c.Quantity+2147483648))
	case 8:
		b = low.AppendUint16(b, uint16(c.Ticks))
	}
	b[0] = byte(len(b) - 1)
	return string(b)
}

// commandAt is the right command whose frame is at the front of s, and the frame's length.
func commandAt(s string) (api.Command, int, bool) {
	lengths := []int{0, 11, 12, 12, 15, 10, 10, 11, 8}
	if len(s) < 2 || int(s[1]) >= len(lengths) {
		return api.Command{}, 0, false
	}
	kind := int(s[1])
	n := lengths[kind]
	if len(s) < n || int(s[0]) != n-1 {
		return api.Command{}, 0, false
	}
	b := []byte(s[:n])
	four := func(at int) int { return int(binary.LittleEndian.Uint32(b[at:])) }
	two := func(at int) int { return int(binary.LittleEndian.Uint16(b[at:])) }
	c := api.Command{Kind: kind, Id: four(2)}
	switch kind {
	case 1:
		c.Good, c.Quantity = int(b[6]), four(7)
	case 2:
		c.Good, c.Day, c.Quantity = int(b[6]), int(b[7]), four(8)
	case 3:
		c.Good, c.Channel, c.Quantity = int(b[6]), int(b[7]), four(8)
	case 4:
		c.Good, c.Channel, c.Day, c.Quantity, c.Ticks = int(b[6]), int(b[7]), int(b[8]), four(9), two(13)
	case 5, 6:
		c.Hold = four(6)
	case 7:
		c.Good, c.Quantity = int(b[6]), four(7)-2147483648
	case 8:
		c.Ticks = two(6)
	}
	if !isRight(c) {
		return api.Command{}, 0, false
	}
	return c, n, true
}

// ordinary has commands of each kind that are right, with what they may have at both ends.
func ordinary() []api.Command {
	return []api.Command{
		{Kind: 1, Id: 1, Good: 2, Quantity: 300},
		{Kind: 1, Id: 0, Good: 0, Quantity: 1},
		{Kind: 1, Id: 2147483647, Good: 3, Quantity: 1000000},
		{Kind: 2, Id: 77, Good: 1, Day: 9, Quantity: 70000},
		{Kind: 2, Id: 0, Good: 0, Day: 0, Quantity: 1},
		{Kind: 2, Id: 2147483647, Good: 3, Day: 15, Quantity: 1000000},
		{Kind: 3, Id: 300, Good: 2, Channel: 1, Quantity: 258},
		{Kind: 3, Id: 0, Good: 0, Channel: 0, Quantity: 1},
		{Kind: 3, Id: 2147483647, Good: 3, Channel: 2, Quantity: 1000000},
		{Kind: 4, Id: 70000, Good: 1, Channel: 2, Day: 3, Quantity: 4, Ticks: 500},
		{Kind: 4, Id: 0, Good: 0, Channel: 0, Day: 0, Quantity: 1, Ticks: 1},
		{Kind: 4, Id: 2147483647, Good: 3, Channel: 2, Day: 15, Quantity: 1000000, Ticks: 1000},
		{Kind: 5, Id: 5, Hold: 60},
		{Kind: 5, Id: 0, Hold: 1},
		{Kind: 5, Id: 2147483647, Hold: 4294967295},
		{Kind: 6, Id: 6, Hold: 66051},
		{Kind: 6, Id: 0, Hold: 1},
		{Kind: 6, Id: 2147483647, Hold: 4294967295},
		{Kind: 7, Id: 7, Good: 1, Quantity: -256},
		{Kind: 7, Id: 0, Good: 0, Quantity: -1},
		{Kind: 7, Id: 0, Good: 0, Quantity: 1},
		{Kind: 7, Id: 1, Good: 3, Quantity: -1000000},
		{Kind: 7, Id: 2147483647, Good: 3, Quantity: 1000000},
		{Kind: 8, Id: 8, Ticks: 258},
		{Kind: 8, Id: 0, Ticks: 1},
		{Kind: 8, Id: 2147483647, Ticks: 1000},
	}
}

// edges has each bound of the document with its neighbours, and what lies far out.
func edges() []int {
	l := []int{math.MinInt, math.MinInt + 1, math.MaxInt - 1, math.MaxInt}
	for _, n := range []int{0, 3, 8, 2, 15, 255, 1000, 65535, 1000000, -1000000, 1000000000, 1 << 31, -1 << 31, 1 << 32, -1 << 32, 1<<32 + 1000} {
		l = append(l, n-1, n, n+1)
	}
	return l
}

// field tells where a number of a command is.
type field func(c *api.Command) *int

func kind(c *api.Command) *int     { return &c.Kind }
func id(c *api.Command) *int       { return &c.Id }
func good(c *api.Command) *int     { return &c.Good }
func channel(c *api.Command) *int  { return &c.Channel }
func day(c *api.Command) *int      { return &c.Day }
func quantity(c *api.Command) *int { return &c.Quantity }
func hold(c *api.Command) *int     { return &c.Hold }
func ticks(c *api.Command) *int    { return &c.Ticks }

var allFields = []field{kind, id, good, channel, day, quantity, hold, ticks}
