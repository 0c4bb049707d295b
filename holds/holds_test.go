package holds

import (
	"slices"
	"testing"

	"larder/api"
)

// three has holds 1 to 3, of goods 0 to 2, that end at 10, 20 and 30.
func three() *Book {
	b := New()
	for n := range 3 {
		b.Add(api.Hold{Good: n, Quantity: 1, Ends: 10 * (n + 1)})
	}
	return b
}

// TestEachHoldIsInOneMap, wherever it goes.
func TestEachHoldIsInOneMap(t *testing.T) {
	b := three()
	b.Close(2, api.Released)
	b.Close(2, api.Committed)
	b.Close(9, api.Committed)
	b.Expire(10)
	for number := range 3 {
		_, open := b.open[number+1]
		_, closed := b.closed[number+1]
		if open == closed {
			t.Errorf("hold %d is open: %t, closed: %t", number+1, open, closed)
		}
	}
	if len(b.open) != 1 || len(b.closed) != 2 || b.Made() != 3 {
		t.Errorf("%d open, %d closed, %d made, want 1, 2, 3", len(b.open), len(b.closed), b.Made())
	}
}

// TestAddSetsNumberAndState, whatever the hold says of them.
func TestAddSetsNumberAndState(t *testing.T) {
	b := New()
	for n := range 3 {
		if number := b.Add(api.Hold{Number: 77, State: api.Expired}); number != n+1 {
			t.Errorf("Add = %d, want %d", number, n+1)
		}
	}
	for _, h := range b.After(0, 3) {
		if h.State != api.Open {
			t.Errorf("hold %d is in state %d", h.Number, h.State)
		}
	}
}

func TestCounting(t *testing.T) {
	b := New()
	for n := range 8 {
		b.Add(api.Hold{Good: n % 2, Quantity: n, Ends: 100 - n})
	}
	b.Close(1, api.Committed)
	b.Close(3, api.Released)
	b.Expire(94) // 7 and 8
	var numbers []int
	for _, h := range b.Counting(0) {
		numbers = append(numbers, h.Number)
	}
	if want := []int{1, 5}; !slices.Equal(numbers, want) {
		t.Errorf("of good 0 %v count, want %v", numbers, want)
	}
}
