package larder_test

import (
	"math"
	"testing"

	"larder/api"
	"larder/larder"
)

func checkRight(t *testing.T, c api.Command) {
	t.Helper()
	if e := larder.Right(c); e != api.OK {
		t.Errorf("P3: Right(%+v) = %d, want OK", c, e)
	}
	if s, e := larder.Frame(c); s != frameOf(c) || e != api.OK {
		t.Errorf("P3: Frame(%+v) = %q, %d, want %q", c, s, e, frameOf(c))
	}
}

func checkWrong(t *testing.T, c api.Command) {
	t.Helper()
	if e := larder.Right(c); e != api.ErrArg {
		t.Errorf("P3: Right(%+v) = %d, want ErrArg", c, e)
	}
	if s, e := larder.Frame(c); s != "" || e != api.ErrArg {
		t.Errorf("P3: Frame(%+v) = %q, %d, want nothing and ErrArg", c, s, e)
	}
}

func TestExamples(t *testing.T) {
	for _, x := range []struct {
		c api.Command
		s []byte
	}{
		{api.Command{Kind: api.Receive, Id: 1, Good: 2, Quantity: 300}, []byte{10, 1, 1, 0, 0, 0, 2, 44, 1, 0, 0}},
		{api.Command{Kind: api.Adjust, Id: 0, Good: 0, Quantity: -1}, []byte{10, 7, 0, 0, 0, 0, 0, 255, 255, 255, 127}},
	} {
		if s, e := larder.Frame(x.c); s != string(x.s) || e != api.OK {
			t.Errorf("P3: Frame(%+v) = %v, %d, want %v", x.c, []byte(s), e, x.s)
		}
	}
}

// TestFrameOfEachKind has every byte of a frame differ from its neighbours, so that none can change places unseen.
func TestFrameOfEachKind(t *testing.T) {
	const id = 0x04030201
	for _, x := range []struct {
		c api.Command
		s []byte
	}{
		{api.Command{Kind: api.Receive, Id: id, Good: 3, Quantity: 0x0d0c0b}, []byte{10, 1, 1, 2, 3, 4, 3, 0x0b, 0x0c, 0x0d, 0}},
		{api.Command{Kind: api.Plan, Id: id, Good: 3, Day: 14, Quantity: 0x0d0c0b}, []byte{11, 2, 1, 2, 3, 4, 3, 14, 0x0b, 0x0c, 0x0d, 0}},
		{api.Command{Kind: api.Allot, Id: id, Good: 3, Channel: 2, Quantity: 0x0d0c0b}, []byte{11, 3, 1, 2, 3, 4, 3, 2, 0x0b, 0x0c, 0x0d, 0}},
		{api.Command{Kind: api.Promise, Id: id, Good: 3, Channel: 2, Day: 14, Quantity: 0x0d0c0b, Ticks: 0x0201}, []byte{14, 4, 1, 2, 3, 4, 3, 2, 14, 0x0b, 0x0c, 0x0d, 0, 1, 2}},
		{api.Command{Kind: api.Commit, Id: id, Hold: 0xfdfcfbfa}, []byte{9, 5, 1, 2, 3, 4, 0xfa, 0xfb, 0xfc, 0xfd}},
		{api.Command{Kind: api.Release, Id: id, Hold: 0xfdfcfbfa}, []byte{9, 6, 1, 2, 3, 4, 0xfa, 0xfb, 0xfc, 0xfd}},
		{api.Command{Kind: api.Adjust, Id: id, Good: 3, Quantity: 0x0d0c0b}, []byte{10, 7, 1, 2, 3, 4, 3, 0x0b, 0x0c, 0x0d, 0x80}},
		{api.Command{Kind: api.Adjust, Id: id, Good: 3, Quantity: -1000000}, []byte{10, 7, 1, 2, 3, 4, 3, 0xc0, 0xbd, 0xf0, 0x7f}},
		{api.Command{Kind: api.Tick, Id: id, Ticks: 0x0201}, []byte{7, 8, 1, 2, 3, 4, 1, 2}},
	} {
		if s, e := larder.Frame(x.c); s != string(x.s) || e != api.OK {
			t.Errorf("P3: Frame(%+v) = %v, %d, want %v", x.c, []byte(s), e, x.s)
		}
	}
}

func TestOrdinaryIsRight(t *testing.T) {
	for _, c := range ordinary() {
		checkRight(t, c)
	}
}

// TestBounds holds each bound from both sides, the numbers written out.
func TestBounds(t *testing.T) {
	receive := api.Command{Kind: api.Receive, Quantity: 1}
	plan := api.Command{Kind: api.Plan, Quantity: 1}
	allot := api.Command{Kind: api.Allot, Quantity: 1}
	promise := api.Command{Kind: api.Promise, Quantity: 1, Ticks: 1}
	commit := api.Command{Kind: api.Commit, Hold: 1}
	release := api.Command{Kind: api.Release, Hold: 1}
	adjust := api.Command{Kind: api.Adjust, Quantity: 1}
	tick := api.Command{Kind: api.Tick, Ticks: 1}
	for _, x := range []struct {
		number       field
		commands     []api.Command
		right, wrong []int
	}{
		{kind, []api.Command{tick}, []int{8}, []int{0, 9, -1, 256 + 8, math.MinInt, math.MaxInt}},
		{kind, []api.Command{receive}, []int{1, 7}, []int{0, -1, 256 + 1}},
		{id, []api.Command{receive, plan, allot, promise, commit, release, adjust, tick}, []int{0, 1, 2147483647}, []int{-1, 2147483648, 4294967296, math.MinInt, math.MaxInt}},
		{good, []api.Command{receive, plan, allot, promise, adjust}, []int{0, 1, 2, 3}, []int{-1, 4, 256, math.MinInt, math.MaxInt}},
		{channel, []api.Command{allot, promise}, []int{0, 1, 2}, []int{-1, 3, 256, math.MinInt, math.MaxInt}},
		{day, []api.Command{plan, promise}, []int{0, 1, 15}, []int{-1, 16, 256, math.MinInt, math.MaxInt}},
		{quantity, []api.Command{receive, plan, allot, promise}, []int{1, 2, 1000000}, []int{0, -1, 1000001, 4294967297, math.MinInt, math.MaxInt}},
		{quantity, []api.Command{adjust}, []int{-1000000, -1, 1, 1000000}, []int{-1000001, 0, 1000001, -2147483648, math.MinInt, math.MaxInt}},
		{hold, []api.Command{commit, release}, []int{1, 2, 60, 61, 2147483648, 4294967295}, []int{0, -1, 4294967296, 4294967297, math.MinInt, math.MaxInt}},
		{ticks, []api.Command{promise, tick}, []int{1, 2, 1000}, []int{0, -1, 1001, 65537, math.MinInt, math.MaxInt}},
	} {
		for _, c := range x.commands {
			for _, n := range x.right {
				*x.number(&c) = n
				checkRight(t, c)
			}
			for _, n := range x.wrong {
				*x.number(&c) = n
				checkWrong(t, c)
			}
		}
	}
}

func TestNothingNeedless(t *testing.T) {
	for _, x := range []struct {
		c        api.Command
		needless []field
	}{
		{api.Command{Kind: api.Receive, Quantity: 1}, []field{channel, day, hold, ticks}},
		{api.Command{Kind: api.Plan, Quantity: 1}, []field{channel, hold, ticks}},
		{api.Command{Kind: api.Allot, Quantity: 1}, []field{day, hold, ticks}},
		{api.Command{Kind: api.Promise, Quantity: 1, Ticks: 1}, []field{hold}},
		{api.Command{Kind: api.Commit, Hold: 1}, []field{good, channel, day, quantity, ticks}},
		{api.Command{Kind: api.Release, Hold: 1}, []field{good, channel, day, quantity, ticks}},
		{api.Command{Kind: api.Adjust, Quantity: 1}, []field{channel, day, hold, ticks}},
		{api.Command{Kind: api.Tick, Ticks: 1}, []field{good, channel, day, quantity, hold}},
	} {
		checkRight(t, x.c)
		for _, number := range x.needless {
			for _, n := range []int{1, -1, math.MinInt, math.MaxInt, 1 << 32} {
				c := x.c
				*number(&c) = n
				checkWrong(t, c)
			}
		}
	}
}

func TestNoKind(t *testing.T) {
	checkWrong(t, api.Command{})
	for _, kind := range []int{0, 9, -1, 255, 256, 257, 264, math.MinInt, math.MaxInt} {
		checkWrong(t, api.Command{Kind: kind})
		for _, c := range ordinary() {
			c.Kind = kind
			checkWrong(t, c)
		}
	}
}

// TestTwoFieldsChanged sets any two numbers of ordinary commands to any edges.
func TestTwoFieldsChanged(t *testing.T) {
	for _, first := range ordinary() {
		for i, one := range allFields {
			for _, other := range allFields[:i] {
				checkPair(t, first, one, other)
			}
		}
	}
}

func checkPair(t *testing.T, first api.Command, one, other field) {
	t.Helper()
	for _, m := range edges() {
		for _, n := range edges() {
			c := first
			*one(&c), *other(&c) = m, n
			if isRight(c) {
				checkRight(t, c)
			} else {
				checkWrong(t, c)
			}
		}
		if t.Failed() { // the rest would say the same
			return
		}
	}
}
