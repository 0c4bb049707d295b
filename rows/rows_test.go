package rows

import (
	"math"
	"testing"
)

func self(n int) int { return n }

func TestSums(t *testing.T) {
	for _, x := range []struct {
		row  []int
		want int
	}{
		{nil, 0},
		{[]int{}, 0},
		{[]int{7}, 7},
		{[]int{1, 2, 4}, 7},
		{[]int{5, -8, 1}, -2},
	} {
		if got := Sum(x.row); got != x.want {
			t.Errorf("Sum(%v) = %d, want %d", x.row, got, x.want)
		}
		if got := SumOf(x.row, self); got != x.want {
			t.Errorf("SumOf(%v) = %d, want %d", x.row, got, x.want)
		}
	}
}

func TestSumOfPartOfItem(t *testing.T) {
	type pair struct{ left, right int64 }
	row := []pair{{1, 10}, {2, 20}, {3, 30}}
	if got := SumOf(row, func(p pair) int64 { return p.right }); got != 60 {
		t.Errorf("SumOf the right ones = %d, want 60", got)
	}
}

func TestLeast(t *testing.T) {
	for _, x := range []struct {
		row  []int
		want int
	}{
		{nil, 0},
		{[]int{}, 0},
		{[]int{7}, 7},
		{[]int{-7}, -7},
		{[]int{3, 2, 4}, 2},
		{[]int{1, 2, 4}, 1},
		{[]int{4, 2, 1}, 1},
		{[]int{5, -8, 1, -8}, -8},
		{[]int{math.MaxInt, math.MinInt}, math.MinInt},
		{[]int{math.MaxInt}, math.MaxInt},
	} {
		if got := Least(x.row); got != x.want {
			t.Errorf("Least(%v) = %d, want %d", x.row, got, x.want)
		}
	}
	if got := Least([]int8{-128, 127}); got != -128 {
		t.Errorf("Least of small numbers = %d, want -128", got)
	}
}
